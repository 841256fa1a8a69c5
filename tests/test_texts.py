"""Texts of sorts, contents, ways and derivations: promises [75] to [77] and [79]."""

import random
from itertools import combinations, product

from unithouse.errors import BadContent, BadMany, BadSort, BadStep, BadText, BadWay, TooGreat, UnitError
from unithouse.rules import RULES
from unithouse.sorts import is_sort, parts
from unithouse.texts import (content_text, derivation_text, read_content, read_derivation, read_sort, read_way,
                             sort_text, way_text)

from tests import reference_texts as by_hand
from tests.raising import RaisingTest
from tests.samples import EMPTY, GREAT, NONE, ODD_VALUES, ONE, SMALL, TWO_KINDS, balanced, deep
from tests.test_derivations import random_steps
from tests.test_ways import NO_DEEDS, NO_WAYS

NO_TEXTS = tuple(value for value in ODD_VALUES if not isinstance(value, str)) + (("one",), 5, ["one"])
SORTS = tuple(sort for _, sort in SMALL + GREAT)

# A text of each kind of sorts within others, and the sort.
READ = (
    ("none", NONE),
    ("subset 0", EMPTY),
    ("bag 12", ("bag", 12)),
    ("rounds 2", ("rounds", 2)),
    ("trees + rooted", ("either", ("trees",), ("rooted",))),
    ("one + one + one", ("either", ("either", ONE, ONE), ONE)),
    ("one + ( one + one )", ("either", ONE, ("either", ONE, ONE))),
    ("one * one * one", ("pair", ("pair", ONE, ONE), ONE)),
    ("one * ( one * one )", ("pair", ONE, ("pair", ONE, ONE))),
    ("one + one * one", ("either", ONE, ("pair", ONE, ONE))),
    ("one * one + one", ("either", ("pair", ONE, ONE), ONE)),
    ("( one + one ) * one", ("pair", ("either", ONE, ONE), ONE)),
    ("one * ( one + one )", ("pair", ONE, ("either", ONE, ONE))),
    ("one + ( one + one ) * one", ("either", ONE, ("pair", ("either", ONE, ONE), ONE))),
    ("list 2 of one * one", ("pair", ("list", 2, ONE), ONE)),
    ("list 2 of ( one * one )", ("list", 2, ("pair", ONE, ONE))),
    ("list 2 of list 3 of one + one", ("either", ("list", 2, ("list", 3, ONE)), ONE)),
    ("family 2 of ( one + subset 2 )", ("family", 2, TWO_KINDS)),
    ("heap 0 of none * trees", ("pair", ("heap", 0, NONE), ("trees",))),
)


def with_parentheses(sort, choose):
    """Return a text of a sort with parentheses around each part that is chosen, and where there must be some."""
    def told(part, bare):
        text = with_parentheses(part, choose)
        needed = part[0] in ("either", "pair") and part[0] not in bare
        return f"( {text} )" if needed else text

    word = sort[0]
    if word == "either":
        text = told(sort[1], ("either", "pair")) + " + " + told(sort[2], ("pair",))
    elif word == "pair":
        text = told(sort[1], ("pair",)) + " * " + told(sort[2], ())
    elif word in ("list", "family", "heap"):
        text = f"{word} {sort[1]} of {told(sort[2], ())}"
    else:
        text = " ".join(map(str, sort))
    return f"( {text} )" if choose() else text


def blanks(text, chooser):
    """Return a text with more blanks between its words and at its ends."""
    return "".join(" " * chooser.randrange(3) + " " + word for word in text.split(" ")) + " " * chooser.randrange(3)


class SortTextTest(RaisingTest):
    def test_by_hand(self):
        for text, sort in READ:
            self.assertEqual(sort_text(3, sort), text)
            self.assertEqual(read_sort(3, text), sort)

    def test_there_and_back(self):
        for many, sort in SMALL + GREAT:
            text = sort_text(many, sort)
            self.assertEqual(text, " ".join(text.split()))
            self.assertEqual(read_sort(many, text), sort)

    def test_no_parentheses_can_be_left_out(self):
        for _, sort in READ + tuple((None, sort) for sort in SORTS):
            words = sort_text(2, sort).split() if is_sort(2, sort) else sort_text(4, sort).split()
            places = self.pairs_of_parentheses(words)
            for size in range(1, min(len(places), 3) + 1):
                for left_out in combinations(places, size):
                    gone = {at for pair in left_out for at in pair}
                    text = " ".join(word for at, word in enumerate(words) if at not in gone)
                    try:
                        self.assertNotEqual(read_sort(4, text), sort)
                    except UnitError:
                        pass

    def pairs_of_parentheses(self, words):
        open_ones, found = [], []
        for at, word in enumerate(words):
            if word == "(":
                open_ones.append(at)
            elif word == ")":
                found.append((open_ones.pop(), at))
        return found

    def test_parentheses_around_any_part_and_more_blanks(self):
        chooser = random.Random(7)
        for many, sort in SMALL + GREAT[1:]:
            for chance in (1, 2, 4):
                text = with_parentheses(sort, lambda: chooser.randrange(4) < chance)
                self.assertEqual(read_sort(many, text), sort)
                self.assertEqual(read_sort(many, blanks(text, chooser)), sort)

    def test_all_short_texts(self):
        words = ["one", "subset", "2", "list", "of", "(", ")", "+", "*", "rounds", "13"]
        for size in range(6):
            for text in product(words, repeat=size):
                if size >= 4 and text[0] in ("2", "of", ")", "+", "*", "13"):
                    continue
                self.check(text)

    def check(self, words):
        """Check what is read of some words, by the grammar."""
        bad = by_hand.first_bad(by_hand.SORTS, "<SUM>", words)
        if bad is not None:
            self.assert_error(BadText(0, bad), read_sort, 3, " ".join(words))
        else:
            sort = read_sort(3, " ".join(words))
            self.assertTrue(is_sort(3, sort))
            self.assertEqual(read_sort(3, sort_text(3, sort)), sort)

    def test_cut_off_at_every_place_and_other_words(self):
        chooser = random.Random(3)
        others = ["none", "12", "13", "01", "-1", "K", "+", "*", "of", "(", ")", "0", "is", "One", "rounds", "heap", "+1"]
        for text, _ in READ:
            words = text.split()
            for at in range(len(words) + 1):
                bad = by_hand.first_bad(by_hand.SORTS, "<SUM>", words[:at])
                if bad is not None:
                    self.assertEqual(bad, at)
                    self.assert_error(BadText(0, at), read_sort, 3, " ".join(words[:at]))
                for word in chooser.sample(others, 6):
                    for changed in (words[:at] + [word] + words[at:], words[:at] + [word] + words[at + 1:]):
                        bad = by_hand.first_bad(by_hand.SORTS, "<SUM>", changed)
                        if bad is not None:
                            self.assert_error(BadText(0, bad), read_sort, 3, " ".join(changed))

    def test_examples(self):
        self.assertEqual(sort_text(3, ("family", 2, ("either", ONE, ("subset", 2)))), "family 2 of ( one + subset 2 )")
        self.assert_error(BadText(0, 2), read_sort, 3, "family 2 one")
        self.assert_error(BadText(0, 2), read_sort, 3, "one +")

    def test_words_by_hand(self):
        for text, word in (("", 0), ("   ", 0), ("one\n", 0), ("one\none", 0), ("\n", 0), ("one + one\n", 2), ("one\t", 0),
                           ("one +\tone", 1), ("subset 2\n", 1), ("subset 02", 1), ("subset 13", 1), ("subset -1", 1),
                           ("subset +2", 1), ("subset 2.0", 1), ("subset \uff12", 1), ("rounds 0", 1), ("rounds 3", 1),
                           ("rounds 01", 1), ("one one", 1), ("( one", 2), ("( one ) )", 3), (")", 0), ("+ one", 0),
                           ("list 2 of", 3), ("list 2", 2), ("list", 1), ("list of", 1), ("list 2 of list 1 of", 6),
                           ("one + + one", 2), ("( )", 1), ("One", 0), ("subset2", 0), ("(one)", 0), ("one+one", 0),
                           ("subset", 1), ("subset 1 2", 2), ("either one one", 0), ("one ;", 1), ("a", 0)):
            self.assert_error(BadText(0, word), read_sort, 3, text)

    def test_what_need_sort_refuses_comes_behind_all_words(self):
        self.assert_error(BadSort((2,)), read_sort, 3, "family 2 of bag 2")
        self.assert_error(BadText(0, 5), read_sort, 3, "family 2 of bag 2 2")
        self.assert_error(BadText(0, 6), read_sort, 3, "family 2 of bag 2 +")
        self.assert_error(BadSort((1, 2)), read_sort, 3, "heap 0 of ( one * one ) + family 1 of trees")
        self.assert_error(TooGreat(12), read_sort, 3, "list 12 of bag 2")
        self.assert_error(TooGreat(40), read_sort, 3, "list 9 of list 9 of subset 0")
        self.assert_error(TooGreat(10), read_sort, 3, " + ".join(["one"] * 11))
        self.assert_error(TooGreat(10), read_sort, 3, "list 1 of " * 10 + "one")
        self.assert_error(TooGreat(10 ** 30), read_sort, 3, "list 3 of list 10 of " + sort_text(3, balanced(EMPTY, 10)).join(
            ["( ", " )"]) + " + one")
        # Too many parts, none of them too deep.
        self.assert_error(TooGreat(60), read_sort, 3, sort_text_of(balanced(ONE, 31)))

    def test_forty_and_forty_one_open_parts(self):
        self.assertEqual(read_sort(3, "( " * 40 + "one" + " )" * 40), ONE)
        self.assert_error(TooGreat(40), read_sort, 3, "( " * 41 + "one" + " )" * 41)
        self.assert_error(TooGreat(40), read_sort, 3, "( " * 41)
        self.assert_error(TooGreat(40), read_sort, 3, "( " * 41 + "x")
        self.assert_error(BadText(0, 40), read_sort, 3, "( " * 40)
        self.assert_error(BadText(0, 40), read_sort, 3, "( " * 40 + "x " + "( " * 9)
        # Inside of a part that `of` began.
        self.assert_error(TooGreat(10), read_sort, 3, "list 1 of " * 40 + "one")
        self.assert_error(TooGreat(40), read_sort, 3, "list 1 of " * 41 + "one")
        self.assert_error(BadText(0, 120), read_sort, 3, "list 1 of " * 40)
        self.assert_error(BadText(0, 122), read_sort, 3, "list 1 of " * 40 + "list 1")
        self.assertEqual(read_sort(3, "list 1 of " + "( " * 39 + "one" + " )" * 39), ("list", 1, ONE))
        self.assert_error(TooGreat(40), read_sort, 3, "list 1 of " + "( " * 40 + "one" + " )" * 40)
        self.assertEqual(read_sort(3, "( " * 39 + "list 1 of one" + " )" * 39), ("list", 1, ONE))
        self.assert_error(TooGreat(40), read_sort, 3, "( " * 40 + "list 1 of one" + " )" * 40)
        self.assert_error(TooGreat(40), read_sort, 3, "( list 1 of " * 20 + "( one" + " )" * 21)
        # Parts that are shut again do not count.
        text = " + ".join(["( " * 20 + "one" + " )" * 20] * 4)
        self.assertEqual(sort_text(3, read_sort(3, text)), "one + one + one + one")
        text = "( " * 38 + "list 1 of one + list 1 of one * list 1 of ( one ) + one" + " )" * 38
        self.assertEqual(sort_text(3, read_sort(3, text)), "list 1 of one + list 1 of one * list 1 of one + one")
        self.assertEqual(read_sort(3, "( " * 39 + "list 1 of one + ( one )" + " )" * 39),
                         ("either", ("list", 1, ONE), ONE))

    def test_four_hundred_and_four_hundred_and_one_words(self):
        # Eight ones, each within parentheses, and the words between them.
        text = " + ".join(["( " * 24 + "one" + " )" * 24] * 8)
        self.assertEqual(len(text.split()), 399)
        self.assertEqual(sort_text(3, read_sort(3, text)), " + ".join(["one"] * 8))
        longer = text.replace("one", "subset 1", 1)
        self.assertEqual(len(longer.split()), 400)
        self.assertEqual(sort_text(3, read_sort(3, longer)), "subset 1" + " + one" * 7)
        self.assertEqual(sort_text(3, read_sort(3, "  ".join(longer.split()))), "subset 1" + " + one" * 7)
        for behind in ("+", "+ one", "* x", "+ x x"):
            self.assert_error(TooGreat(400), read_sort, 3, f"{longer} {behind}")
        for behind in ("one", ")", "x", ";"):
            self.assert_error(BadText(0, 400), read_sort, 3, f"{longer} {behind}")
        self.assert_error(BadText(0, 400), read_sort, 3, f"{text} +")
        self.assert_error(TooGreat(400), read_sort, 3, f"{text} + one")
        self.assert_error(TooGreat(400), read_sort, 3, f"{text} + x".replace("x", "( " * 50))
        # Of many words the first one that is wrong comes first.
        self.assert_error(BadText(0, 3), read_sort, 3, "one + one one" + " + one" * 300)
        self.assert_error(TooGreat(400), read_sort, 3, "one" + " + one" * 300 + " x")
        self.assert_error(TooGreat(10), read_sort, 3, "subset 1" + " + one" * 199)
        # The 401st word is a parenthesis inside of 40 parts.
        begun = "one + " * 179 + "one * one + " + "( " * 38
        self.assertEqual(len(begun.split()), 400)
        self.assert_error(TooGreat(400), read_sort, 3, begun + "(")
        self.assert_error(BadText(0, 400), read_sort, 3, begun)

    def test_not_there(self):
        for call in (read_sort, read_content, read_way, read_derivation):
            for many in (1, 6, True, None):
                self.assert_error(BadMany(many), call, many, None)
            for value in NO_TEXTS:
                self.assert_error(BadText(0, 0), call, 3, value)
        self.assert_error(BadMany(1), sort_text, 1, 5)
        self.assert_error(BadSort((1,)), sort_text, 3, ("either", 5, 5))
        self.assert_error(TooGreat(10), sort_text, 3, deep(11))


def sort_text_of(sort):
    """Return a text of an either of eithers, whatever bounds it passes."""
    if sort[0] != "either":
        return " ".join(map(str, sort))
    return f"( {sort_text_of(sort[1])} + {sort_text_of(sort[2])} )"


class ContentTextTest(RaisingTest):
    def test_there_and_back(self):
        self.assertEqual(content_text(3, (2, 0, 1)), "2 0 1")
        self.assertEqual(content_text(5, (24, 0, 10, 9, 1)), "24 0 10 9 1")
        for many in range(2, 6):
            for content in list(product((0, 1, 9, 10, 24), repeat=many))[::7]:
                text = content_text(many, content)
                self.assertEqual(read_content(many, text), content)
                self.assertEqual(read_content(many, f"  {text.replace(' ', '   ')} "), content)

    def test_bad_words(self):
        words = ["0", "24", "25", "01", "x", "-1", "1.0", "1\n"]
        for size in range(5):
            for text in product(words, repeat=size):
                bad = by_hand.first_bad(by_hand.contents(3), "<CONTENT>", text)
                if bad is None:
                    self.assertEqual(read_content(3, " ".join(text)), tuple(map(int, text)))
                else:
                    self.assert_error(BadText(0, bad), read_content, 3, " ".join(text))
        self.assert_error(BadText(0, 2), read_content, 2, "1 1 1")
        self.assert_error(BadText(0, 0), read_content, 3, "1\n1 1")

    def test_errors_in_their_order(self):
        self.assert_error(BadMany(1), content_text, 1, None)
        for value in ((), (0, 0), (0, 0, 25), [0, 0, 0], (0, 0, True), *ODD_VALUES):
            self.assert_error(BadContent(value), content_text, 3, value)


class WayTextTest(RaisingTest):
    def test_there_and_back(self):
        way = (("transfer", 0, 1), ("exchange", 1, 2))
        self.assertEqual(way_text(3, way), "transfer a b ; exchange b c")
        self.assertEqual(read_way(3, "transfer a b ; exchange b c"), way)
        self.assertEqual((way_text(3, ()), read_way(3, ""), read_way(3, "   ")), ("", (), ()))
        for many in range(2, 6):
            deeds = [(word, one, other) for word in ("transfer", "exchange") for one in range(many)
                     for other in range(many) if one != other]
            for size in (1, 2, 7, 60):
                way = tuple(deeds[at * 5 % len(deeds)] for at in range(size))
                self.assertEqual(read_way(many, way_text(many, way)), way)
                self.assertEqual(read_way(many, way_text(many, way).replace(" ", "  ") + " "), way)
            self.assertEqual(read_way(many, way_text(many, tuple(deeds))), tuple(deeds))

    def test_sixty_deeds(self):
        text = " ; ".join(["exchange a b"] * 60)
        self.assertEqual(len(read_way(2, text)), 60)
        self.assert_error(BadText(0, 239), read_way, 2, f"{text} ;")
        self.assert_error(BadText(0, 239), read_way, 2, f"{text} ; exchange a b")
        self.assert_error(BadText(0, 239), read_way, 2, f"{text} x")
        self.assert_error(BadText(0, 236), read_way, 2, " ; ".join(["exchange a b"] * 59) + " ;")

    def test_bad_words(self):
        words = ["transfer", "exchange", "a", "b", "c", "d", ";", "x", "A", "transfer\n", ""]
        grammar = by_hand.ways(3)
        for size in range(5):
            for text in product(words[:10], repeat=size):
                if size == 4 and text[0] not in words[:2]:
                    continue
                bad = by_hand.first_bad(grammar, "<WAY>", text)
                if bad is not None:
                    self.assert_error(BadText(0, bad), read_way, 3, " ".join(text))
                else:
                    self.assertEqual(way_text(3, read_way(3, " ".join(text))), " ".join(text))
        words = "transfer a b ; exchange b c ; transfer c a".split()
        for at in range(len(words)):
            bad = by_hand.first_bad(grammar, "<WAY>", words[:at])
            if bad is None:
                self.assertEqual(len(read_way(3, " ".join(words[:at]))), (at + 1) // 4)
            else:
                self.assertEqual(bad, at)
                self.assert_error(BadText(0, at), read_way, 3, " ".join(words[:at]))
        for text, word in (("transfer a a", 2), ("transfer a d", 2), ("transfer d a", 1), ("transfer a b;", 2), (";", 0),
                           ("transfer a b ; ;", 4), ("transfer a b transfer a b", 3), ("transfer ab", 1)):
            self.assert_error(BadText(0, word), read_way, 3, text)
        self.assertEqual(read_way(4, "transfer a d"), (("transfer", 0, 3),))

    def test_errors_in_their_order(self):
        self.assert_error(BadMany(1), way_text, 1, None)
        for value in NO_WAYS:
            self.assert_error(BadWay(0), way_text, 3, value)
        for value in NO_DEEDS:
            self.assert_error(BadWay(1), way_text, 3, (("transfer", 0, 1), value))
        self.assert_error(BadWay(60), way_text, 3, (("exchange", 0, 1),) * 61)
        self.assertEqual(way_text(3, (("exchange", 0, 1),) * 60), " ; ".join(["exchange a b"] * 60))


class DerivationTextTest(RaisingTest):
    STEP = ((2,), "either_swap", False, ("either", ("subset", 2), ONE))

    def test_there_and_back(self):
        self.assertEqual(derivation_text(3, [self.STEP]), "2 either_swap as subset 2 + one")
        back = ((), "pair_unit", True, ("pair", TWO_KINDS, EMPTY))
        self.assertEqual(derivation_text(3, (back, self.STEP)),
                         "pair_unit back as ( one + subset 2 ) * subset 0 ; 2 either_swap as subset 2 + one")
        self.assertEqual(read_derivation(3, derivation_text(3, (back, self.STEP))), (back, self.STEP))
        self.assertEqual((derivation_text(3, []), derivation_text(3, ()), read_derivation(3, "")), ("", "", ()))
        self.assertEqual(read_derivation(3, " 2  either_swap as ( ( subset 2 ) + one ) "), (self.STEP,))
        for seed, (many, sort) in enumerate(SMALL + GREAT):
            steps = random_steps(many, sort, 5, seed + 300)
            text = derivation_text(many, steps)
            self.assertEqual(read_derivation(many, text), tuple(steps))
            self.assertEqual(derivation_text(many, read_derivation(many, text)), text)
        for word in RULES:
            for back in (True, False):
                steps = (((1, 2) * 4 + (1,), word, back, ONE),)
                self.assertEqual(derivation_text(3, steps), f"1 2 1 2 1 2 1 2 1 {word} {'back ' * back}as one")
                self.assertEqual(read_derivation(3, derivation_text(3, steps)), steps)
                self.assertIs(read_derivation(3, derivation_text(3, steps))[0][2], back)

    def test_bad_words(self):
        words = ["1", "2", "square", "back", "as", "one", "+", ";", "0", "family_one"]
        for size in range(5):
            for text in product(words, repeat=size):
                if size == 4 and text[0] in ("back", "as", "one", "+", ";", "0"):
                    continue
                self.check(text)
        text = "2 1 either_swap back as one + ( subset 2 ) ; square as list 2 of one ; 1 1 1 1 1 1 1 1 1 parity as none"
        words, chooser = text.split(), random.Random(5)
        for at in range(len(words) + 1):
            self.check(words[:at])
            for word in ["1", "2", "3", "01", "back", "as", ";", "one", "square", "(", ")", "+", "is", "one\n"]:
                if chooser.randrange(3) == 0:
                    self.check(words[:at] + [word] + words[at:])
                    self.check(words[:at] + [word] + words[at + 1:])

    def check(self, words):
        bad = by_hand.first_bad(by_hand.STEPS, "<STEPS>", words)
        if bad is not None:
            self.assert_error(BadText(0, bad), read_derivation, 3, " ".join(words))
        else:
            steps = read_derivation(3, " ".join(words))
            self.assertEqual(read_derivation(3, derivation_text(3, steps)), steps)

    def test_ten_of_a_path(self):
        self.assertEqual(read_derivation(3, "1 " * 9 + "square as one"), (((1,) * 9, "square", False, ONE),))
        self.assert_error(BadText(0, 9), read_derivation, 3, "1 " * 10 + "square as one")
        self.assert_error(BadText(0, 9), read_derivation, 3, "1 " * 9)

    def test_forty_steps(self):
        text = " ; ".join(["square as one"] * 40)
        self.assertEqual(len(read_derivation(3, text)), 40)
        self.assert_error(BadText(0, 159), read_derivation, 3, f"{text} ;")
        self.assert_error(BadText(0, 159), read_derivation, 3, f"{text} ; square as one")
        self.assert_error(BadText(0, 160), read_derivation, 3, f"{text} +")

    def test_too_many_words_and_open_parts(self):
        longest = "subset 1" + " + one" * 199
        self.assertEqual(len(longest.split()), 400)
        # Each sort's words are counted from its own first one.
        self.assert_error(TooGreat(400), read_derivation, 3, f"square as one ; square as {longest} + one")
        self.assert_error(TooGreat(10), read_derivation, 3, f"square as {longest} ; square as {longest}")
        self.assert_error(BadText(0, 406), read_derivation, 3, f"1 square as {longest} ; square as ;")
        self.assert_error(TooGreat(40), read_derivation, 3, "square as one ; square as " + "( " * 41)
        self.assertEqual(read_derivation(3, "square as " + "( " * 40 + "one" + " )" * 40), (((), "square", False, ONE),))

    def test_what_need_sort_refuses_comes_behind_all_words(self):
        wrong, great = "family 2 of bag 2", "list 12 of bag 2"
        self.assert_error(BadSort((2,)), read_derivation, 3, f"square as one ; square as {wrong} ; square as {great}")
        self.assert_error(TooGreat(12), read_derivation, 3, f"square as {great} ; square as {wrong}")
        self.assert_error(BadText(0, 9), read_derivation, 3, f"square as {wrong} ; square x")
        self.assert_error(BadText(0, 8), read_derivation, 3, f"square as {wrong} ;")

    def test_steps_that_are_none(self):
        self.assert_error(BadMany(1), derivation_text, 1, None)
        for steps in (None, 5, "", {}, {self.STEP}, True):
            self.assert_error(BadStep(0), derivation_text, 3, steps)
        self.assert_error(TooGreat(40), derivation_text, 3, [self.STEP] * 41)
        self.assert_error(TooGreat(40), derivation_text, 3, [None] * 41)
        self.assertEqual(len(derivation_text(3, [self.STEP] * 40).split(";")), 40)
        path, word, back, put = self.STEP
        for value in (None, 5, (), self.STEP[:3], self.STEP + (1,), list(self.STEP), ([2], word, back, put),
                      ((2,) * 10, word, back, put), ((3,), word, back, put), ((0,), word, back, put),
                      ((True,), word, back, put), (2, word, back, put), (None, word, back, put), ("2", word, back, put),
                      ((1.0,), word, back, put), (path, "swap", back, put), (path, None, back, put),
                      (path, [], back, put), (path, (word,), back, put), (path, word, 0, put), (path, word, None, put),
                      (path, word, 1, put), (path, word, back, None), (path, word, back, 5),
                      (path, word, back, ("either", ONE, 5)), (path, word, back, deep(11)),
                      (path, word, back, ("family", 2, ("bag", 2)))):
            for place in (0, 2):
                self.assert_error(BadStep(place), derivation_text, 3, (self.STEP,) * place + (value, None))
        self.assertEqual(derivation_text(3, [((1,) * 9, word, True, put)]),
                         f"{'1 ' * 9}either_swap back as subset 2 + one")
        # A step need not be one that can be done.
        self.assertEqual(derivation_text(3, [((1,), "parity", False, ONE)]), "1 parity as one")

    def test_the_words_of_a_path_are_those_of_parts(self):
        for many, sort in SMALL:
            for path, part in parts(many, sort):
                if is_sort(many, part):
                    steps = ((path, "square", True, part),)
                    self.assertEqual(read_derivation(many, derivation_text(many, steps)), steps)
