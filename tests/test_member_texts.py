"""Texts of members: promise [78], and [75] and [76] of them."""

import random

from unithouse.errors import BadMany, BadMember, BadSort, BadText, TooGreat
from unithouse.listing import member_at
from unithouse.sorts import how_many
from unithouse.texts import member_text, read_member

from tests import reference
from tests import reference_texts as by_hand
from tests.raising import RaisingTest
from tests.samples import EMPTY, GREAT, NONE, ODD_VALUES, ONE, SMALL, TWO_KINDS, deep

# Rows in which a thing may stand only if enough others are left, and sorts with parts that have no members.
MORE = (
    (3, ("family", 6, TWO_KINDS)),
    (3, ("family", 5, TWO_KINDS)),
    (3, ("family", 2, ("either", EMPTY, ONE))),
    (3, ("family", 2, ("either", ONE, EMPTY))),
    (3, ("family", 3, ("either", EMPTY, ("either", EMPTY, ONE)))),
    (3, ("family", 2, ("either", ("subset", 4), ("either", ONE, NONE)))),
    (3, ("family", 3, ("either", ("subset", 2), ("subset", 2)))),
    (4, ("family", 5, ("subset", 2))),
    (3, ("family", 7, ("either", ONE, ONE))),
    (3, ("heap", 2, ("either", ("either", ONE, NONE), EMPTY))),
    (3, ("heap", 3, ("either", EMPTY, EMPTY))),
    (3, ("heap", 3, EMPTY)),
    (3, ("list", 2, ("either", ("pair", ONE, NONE), ("either", ONE, ("subset", 4))))),
    (3, ("either", ("pair", NONE, ONE), ("either", ("list", 0, NONE), ("family", 4, ONE)))),
    (3, ("pair", ("bag", 0), ("pair", EMPTY, ("list", 0, ONE)))),
    (3, ("pair", ("family", 2, ONE), ("family", 2, ONE))),
    (3, ("list", 2, ("family", 2, TWO_KINDS))),
    (2, ("pair", ("rooted",), ("pair", ("trees",), ("rounds", 2)))),
    (4, ("pair", ONE, ("trees",))),
    (2, ("list", 3, ("either", ("bag", 2), EMPTY))),
)
OTHERS = ["", "0", "1", "2", "00", "a", "b", "c", "d", "e", "f", "A", "ab", "ba", "aa", "bc", "ac", "abc", ".", "a.", ".a",
          "ab.", "b.b", ".aa", "...", "a b", "aaaaaa.", "x", "a\n", "-", "bca", "..", "aab", "01"]


class WriteTest(RaisingTest):
    def test_examples(self):
        sort = ("family", 2, TWO_KINDS)
        self.assertEqual(member_text(3, sort, ((0, 0), (1, (0, 2)))), "0 a 1 ac")
        self.assertEqual(member_text(3, ("rooted",), (1, ((0, 1), (1, 2)))), "b.b")
        self.assertEqual(read_member(3, sort, "0 a 1 ac"), ((0, 0), (1, (0, 2))))
        self.assertEqual(read_member(3, ("rooted",), "b.b"), (1, ((0, 1), (1, 2))))
        self.assert_error(BadText(0, 0), read_member, 3, ("family", 2, ONE), "c")

    def test_by_hand(self):
        for many, sort, member, text in (
                (5, ONE, 4, "e"), (5, ("subset", 3), (0, 2, 4), "ace"), (3, ("bag", 4), (0, 0, 2, 2), "aacc"), (3, EMPTY, (), ""),
                (3, ("bag", 0), (), ""), (3, ("either", EMPTY, ONE), (0, ()), "0"), (3, ("either", EMPTY, ONE), (1, 1), "1 b"),
                (3, ("pair", ("bag", 2), ("pair", EMPTY, ONE)), ((1, 1), ((), 0)), "bb a"),
                (3, ("list", 3, ONE), (2, 0, 2), "c a c"), (3, ("list", 0, ONE), (), ""),
                (3, ("heap", 2, ("subset", 2)), ((0, 1), (0, 1)), "ab ab"),
                (3, ("rounds", 2), ((0, 1), (2, 2), (1, 2)), "ab cc bc"), (2, ("rounds", 1), ((1,),), "b"),
                (4, ("trees",), ((0, 3), (1, 3), (2, 3)), "ad bd cd"), (2, ("trees",), ((0, 1),), "ab"),
                (4, ("rooted",), (3, ((0, 3), (1, 2), (2, 3))), "dcd."), (2, ("rooted",), (0, ((0, 1),)), ".a")):
            self.assertEqual(member_text(many, sort, member), text)
            self.assertEqual(read_member(many, sort, text), member)

    def test_all_members(self):
        for many, sort in SMALL + MORE:
            texts = []
            for member in reference.all_members(many, sort):
                text = member_text(many, sort, member)
                self.assertEqual(text, " ".join(by_hand.member_words(many, sort, member)))
                self.assertEqual(read_member(many, sort, text), member)
                self.assertEqual(read_member(many, sort, f"  {text.replace(' ', '  ')} "), member)
                content = reference.content(many, sort, member)
                self.assertEqual(tuple(text.count(letter) for letter in "abcde"[:many]), content)
                texts.append(text.split())
            if "rooted" not in str(sort):
                self.assertEqual(texts, sorted(texts))

    def test_great_sorts(self):
        chooser = random.Random(11)
        for many, sort in GREAT:
            found = []
            for _ in range(30):
                index = chooser.randrange(how_many(many, sort))
                member = member_at(many, sort, index)
                text = member_text(many, sort, member)
                self.assertEqual(read_member(many, sort, text), member)
                found.append((index, text.split()))
            if "rooted" not in str(sort):
                self.assertEqual(sorted(found), sorted(found, key=lambda one: one[1]))

    def test_errors_in_their_order(self):
        self.assert_error(BadMany(1), member_text, 1, 5, None)
        self.assert_error(BadSort(()), member_text, 3, 5, None)
        self.assert_error(TooGreat(10), member_text, 3, deep(11), None)
        for value in (3, *ODD_VALUES):
            self.assert_error(BadMember(value), member_text, 3, ONE, value)


class ReadTest(RaisingTest):
    def check(self, many, sort, words):
        bad = by_hand.first_bad_of_member(many, sort, words)
        text = " ".join(words)
        if bad is None:
            self.assertEqual(read_member(many, sort, text), by_hand.texts_of(many, sort)[tuple(words)])
        else:
            self.assert_error(BadText(0, bad), read_member, many, sort, text)

    def test_each_word_behind_each_beginning(self):
        for many, sort in SMALL + MORE:
            found = sorted(by_hand.beginnings(many, sort)) or [()]
            others = sorted({word for words in found for word in words} | set(OTHERS) - {"", "a b"})
            for words in found[::len(found) // 60 + 1]:
                self.check(many, sort, list(words))
                for word in others:
                    self.check(many, sort, [*words, word])
                    self.check(many, sort, [*words, word, "a"])

    def test_cut_off_at_every_place_and_changed(self):
        chooser = random.Random(13)
        for many, sort in SMALL + MORE:
            texts = sorted(by_hand.texts_of(many, sort))
            for words in texts[::len(texts) // 12 + 1]:
                for at in range(len(words) + 1):
                    self.check(many, sort, list(words[:at]))
                    for word in chooser.sample([one for one in OTHERS if one and " " not in one], 8):
                        self.check(many, sort, [*words[:at], word, *words[at:]])
                        self.check(many, sort, [*words[:at], word, *words[at + 1:]])

    def test_great_sorts_cut_off(self):
        for many, sort in GREAT:
            words = member_text(many, sort, member_at(many, sort, how_many(many, sort) // 3)).split()
            for at in range(len(words)):
                self.assert_error(BadText(0, at), read_member, many, sort, " ".join(words[:at]))
                self.assert_error(BadText(0, at), read_member, many, sort, " ".join(words[:at] + ["x"] + words[at:]))
            self.assert_error(BadText(0, len(words)), read_member, many, sort, " ".join(words + ["a"]))

    def test_without_members(self):
        for sort in (NONE, ("subset", 4), ("pair", ONE, NONE), ("list", 2, NONE), ("family", 4, ONE), ("heap", 1, NONE)):
            for text in ("", "a", "abcd", "a a", "0", "\n"):
                self.assert_error(BadText(0, 0), read_member, 3, sort, text)

    def test_words_by_hand(self):
        for sort, text, word in ((("family", 2, ONE), "a a", 1), (("family", 2, ONE), "b a", 1), (("family", 2, ONE), "b", 1),
                                 (("family", 2, ONE), "b c a", 2), (("heap", 2, ONE), "c", 1), (("heap", 2, ONE), "c b", 1),
                                 (("subset", 2), "ba", 0), (("subset", 2), "abc", 0), (("bag", 2), "cb", 0),
                                 (("rounds", 1), "a c a", 2), (("rounds", 1), "c", 0), (("trees",), "bc", 0),
                                 (("trees",), "ac ab", 1), (("trees",), "ab ab", 1), (("rooted",), "..a", 0),
                                 (("rooted",), "ba.", 0), (("rooted",), "aa.", 0), (("rooted",), "bcc", 0),
                                 (("rooted",), "b.", 0), (("rooted",), "b.bb", 0), (("rooted",), "b.d", 0),
                                 (("list", 2, ONE), "a b c", 2), (("list", 2, ONE), "a\nb", 0), (ONE, "a\n", 0),
                                 (("either", ONE, ONE), "2 a", 0), (EMPTY, "a", 0), (("list", 2, EMPTY), "a", 0)):
            self.assert_error(BadText(0, word), read_member, 3, sort, text)
        # Three ties of four names that make a round, or leave one name out.
        for text, word in (("ab ac bc", 2), ("bc", 0), ("bc bd cd", 0), ("ac cd", 1), ("ab cd", 1), ("ad bd", 2),
                           ("ad cd", 1), ("ac bd", 2), ("ab bc", 2), ("ad", 1)):
            self.assert_error(BadText(0, word), read_member, 4, ("trees",), text)
        for text in ("ab ac ad", "ac bc cd", "ab bc bd", "ad bc bd", "ad bd cd", "ac bd cd"):
            self.assertEqual(member_text(4, ("trees",), read_member(4, ("trees",), text)), text)

    def test_errors_in_their_order(self):
        self.assert_error(BadMany(True), read_member, True, 5, None)
        self.assert_error(BadSort((2, 2)), read_member, 3, ("list", 1, ("family", 1, ("bag", 1))), None)
        self.assert_error(TooGreat(10), read_member, 3, deep(11), "x")
        for value in ODD_VALUES:
            if not isinstance(value, str):
                self.assert_error(BadText(0, 0), read_member, 3, ONE, value)
