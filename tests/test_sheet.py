"""Sheets: promises [80] and [81]."""

import random

from unithouse.errors import BadMany, BadName, BadSort, BadText, TooGreat
from unithouse.listing import members
from unithouse.sheet import Sheet, whole_sheet
from unithouse.sorts import how_many
from unithouse.texts import member_text, sort_text

from tests import reference
from tests.raising import RaisingTest
from tests.reference_sheet import outcome, read_sheet
from tests.samples import EMPTY, NONE, ODD_VALUES, ONE, SMALL, TWO_KINDS, deep

# Each kind of line and of saying, true and false, said and denied.
FULL = """
names 3

sort S is one + subset 2
sort Rows is family 2 of S
sort T is S * ( S + none )
   member P of   Rows is  0 a 1 ac
member Q of Rows is 0 b 1 bc
member R of family 2 of ( one + subset 2 ) is 1 ab 1 bc
member Lone of one is a
member Other of list 1 of one is b
member Empty of subset 0 is
way W is transfer a b ; exchange b c
way Stay is
derivation D is either_swap as subset 2 + one
derivation Twice is either_swap as subset 2 + one ; either_swap back as one + subset 2
derivation Still is
say P content 2 0 1
say P content 2 1 0
deny P content 2 1 0
deny P content 2 0 1
say P transfer a b Q
say P transfer b a none
deny P transfer a b none
deny P transfer b a Q
say Lone transfer a b Other
deny Lone transfer a b Other
say P exchange a b Q
say P exchange b a R
say Lone exchange b c Lone
say P along W P
say P along Stay P
say Lone along W Lone
deny Lone along W Other
say S members 6
say S members 7
deny Rows members 15
say Rows at 2 1 0 members 2
say Rows at 2 1 0 members 3
deny Rows at 5 0 0 members 0
say S like subset 2 + one
say S like one
deny Rows like S
say D from S to subset 2 + one
say D from one + subset 2 to S
say D from Rows to Rows
deny D from one to one
say Twice from S to S
say Still from one to one
deny Still from one to S
say 1 1 1 evens 0 3 0
say 0 3 0 evens 1 1 1
deny 0 3 0 evens 1 1 1
deny 1 1 1 evens 1 1 0
"""


class FullTest(RaisingTest):
    def test_each_kind_of_line(self):
        sheet = Sheet(FULL)
        many, rows, text = read_sheet(FULL)
        self.assertEqual((sheet.many, sheet.rows, str(sheet)), (many, rows, text))
        self.assertEqual((len(sheet), list(sheet)), (len(rows), list(rows)))
        self.assertIs(sheet.all_true(), False)
        lines = FULL.split("\n")
        self.assertEqual([line for line, _ in sheet], [at for at, line in enumerate(lines) if line[:3] in ("say", "den")])
        self.assertTrue(all(isinstance(truth, bool) for _, truth in sheet.rows))

    def test_truths_by_hand(self):
        lines = [line for line in FULL.split("\n") if line[:3] in ("say", "den")]
        truths = dict(zip(lines, [truth for _, truth in Sheet(FULL)]))
        for line in ("say P content 2 0 1", "deny P content 2 1 0", "say P transfer b a none", "deny P transfer a b none",
                     "deny P transfer b a Q", "say P exchange a b Q", "say P along Stay P", "deny Lone along W Other",
                     "deny Lone transfer a b Other", "say Lone exchange b c Lone", "say S members 6",
                     "say S like subset 2 + one", "deny Rows like S", "say D from S to subset 2 + one",
                     "deny D from one to one", "say Twice from S to S", "say Still from one to one",
                     "deny Still from one to S", "say 1 1 1 evens 0 3 0", "deny 0 3 0 evens 1 1 1",
                     "deny 1 1 1 evens 1 1 0"):
            self.assertIs(truths.pop(line), True, line)
        for line in ("say P content 2 1 0", "deny P content 2 0 1", "say P transfer a b Q", "say P exchange b a R",
                     "say P along W P", "say Lone along W Lone", "say Lone transfer a b Other", "say S members 7",
                     "deny Rows members 15", "say Rows at 2 1 0 members 2", "say Rows at 2 1 0 members 3",
                     "deny Rows at 5 0 0 members 0", "say S like one", "say D from one + subset 2 to S",
                     "say D from Rows to Rows", "say 0 3 0 evens 1 1 1"):
            self.assertIs(truths.pop(line), False, line)
        self.assertEqual(truths, {})

    def test_text(self):
        sheet = Sheet(FULL)
        self.assertIn("\nsort Rows is family 2 of ( one + subset 2 )\n", str(sheet))
        self.assertIn("\nsort T is ( one + subset 2 ) * ( one + subset 2 + none )\n", str(sheet))
        self.assertIn("\nmember P of family 2 of ( one + subset 2 ) is 0 a 1 ac\n", str(sheet))
        self.assertIn("\nmember Empty of subset 0 is\nway W is transfer a b ; exchange b c\nway Stay is\n", str(sheet))
        self.assertIn("\nderivation Still is\n", str(sheet))
        self.assertIn("\nsay D from one + subset 2 to subset 2 + one\n", str(sheet))
        self.assertEqual(str(sheet), "\n".join(" ".join(line.split()) for line in str(sheet).split("\n")))
        again = Sheet(str(sheet))
        self.assertTrue(again == sheet)
        self.assertEqual(str(again), str(sheet))
        self.assertEqual([truth for _, truth in again], [truth for _, truth in sheet])
        self.assertNotEqual(again.rows, sheet.rows)

    def test_equal(self):
        sheet = Sheet("names 3\nsort A is one\nsay A members 3")
        for text in ("names 3\nsort A is ( one )\n\nsay A members 3", "  names  3\nsort A is one\nsay  A  members 3\n"):
            self.assertTrue(Sheet(text) == sheet)
            self.assertFalse(Sheet(text) != sheet)
        for other in (Sheet("names 2\nsort A is one\nsay A members 3"), Sheet("names 3\nsort A is one\nsay A members 4"),
                      Sheet("names 3\nsort B is one\nsay B members 3"), Sheet("names 3"), str(sheet), None, sheet.rows, 5,
                      Sheet("names 3\nsort A is one\ndeny A members 3"), Sheet("names 3\nsort A is subset 1\nsay A members 3")):
            self.assertFalse(sheet == other)
            self.assertTrue(sheet != other)

    def test_named(self):
        sheet = Sheet(FULL)
        self.assertEqual(sheet.named("S"), ("sort", TWO_KINDS))
        self.assertEqual(sheet.named("T"), ("sort", ("pair", TWO_KINDS, ("either", TWO_KINDS, NONE))))
        self.assertEqual(sheet.named("P"), ("member", ("family", 2, TWO_KINDS), ((0, 0), (1, (0, 2)))))
        self.assertEqual(sheet.named("Empty"), ("member", EMPTY, ()))
        self.assertEqual(sheet.named("W"), ("way", (("transfer", 0, 1), ("exchange", 1, 2))))
        self.assertEqual(sheet.named("Stay"), ("way", ()))
        self.assertEqual(sheet.named("D"), ("derivation", (((), "either_swap", False, ("either", ("subset", 2), ONE)),)))
        self.assertIs(sheet.named("Twice")[1][1][2], True)
        self.assertEqual(sheet.named("Still"), ("derivation", ()))
        for value in ("s", "", "X", "names", "one", "S ", *ODD_VALUES):
            self.assert_error(BadName(value), sheet.named, value)

    def test_nothing_said(self):
        for many in range(2, 6):
            sheet = Sheet(f"\n\n names  {many} \n")
            self.assertEqual((sheet.many, sheet.rows, len(sheet), list(sheet)), (many, (), 0, []))
            self.assertIs(sheet.all_true(), True)
            self.assertEqual(str(sheet), f"names {many}")

    def test_all_true(self):
        begun = "names 3\nsort A is one\n"
        for lines, truth in (("say A members 3", True), ("deny A members 3", False), ("deny A members 4", True),
                             ("say A members 4", False), ("say A members 3\ndeny A members 3", False),
                             ("say A members 3\ndeny A members 2", True), ("say A members 2\nsay A members 3", False)):
            self.assertIs(Sheet(begun + lines).all_true(), truth)

    def test_long_numbers(self):
        begun = "names 3\nsort Great is list 3 of list 10 of ( {} )\n".format(" + ".join(["subset 0"] * 5))
        count = str(5 ** 30)
        self.assertIs(Sheet(f"{begun}say Great members {count}").all_true(), True)
        self.assertIs(Sheet(f"{begun}say Great at 0 0 0 members {count}").all_true(), True)
        self.assertIs(Sheet(f"{begun}deny Great members {'9' * 40}").all_true(), True)
        self.assert_error(BadText(2, 3), Sheet, f"{begun}say Great members {'9' * 41}")
        self.assert_error(BadText(2, 3), Sheet, f"{begun}say Great members 0{count}")
        self.assert_error(BadText(2, 7), Sheet, f"{begun}say Great at 0 0 0 members {'9' * 41}")

    def test_members_of_equal_sorts(self):
        # What is told in other words may be an equal sort, an alike one is not.
        begun = ("names 2\nsort A is one\nmember P of A is a\nmember Q of ( one ) is b\nmember R of subset 1 is b\n"
                 "way W is exchange a b\n")
        for saying, truth in (("P transfer a b Q", True), ("P transfer a b R", False), ("P exchange a b Q", True),
                              ("P exchange a b R", False), ("P along W Q", True), ("P along W R", False),
                              ("P transfer b a none", True), ("P transfer a b P", False), ("P transfer b a Q", False)):
            self.assertIs(Sheet(f"{begun}say {saying}").all_true(), truth, saying)
            self.assertIs(Sheet(f"{begun}deny {saying}").all_true(), not truth, saying)

    def test_ways_that_are_not_let(self):
        begun = "names 2\nmember P of one * one is a b\nmember Q of one * one is b b\nway W is transfer a b\n"
        self.assertIs(Sheet(f"{begun}say P transfer a b none").all_true(), True)
        # There is no transfer along the way as both names have as many marks.
        self.assertIs(Sheet(f"{begun}deny P along W Q").all_true(), True)
        self.assertIs(Sheet(f"{begun}deny P along W P").all_true(), True)

    def test_steps_that_are_refused(self):
        begun = "names 3\nderivation D is 1 subset_one back as subset 1 ; either_swap as one + subset 1\n"
        self.assertIs(Sheet(f"{begun}say D from one + one to one + subset 1").all_true(), True)
        self.assertIs(Sheet(f"{begun}say D from one + subset 2 to one + subset 1").all_true(), False)
        self.assertIs(Sheet(f"{begun}deny D from one to one").all_true(), True)
        self.assertIs(Sheet(f"{begun}deny D from subset 1 + one to one + subset 1").all_true(), True)


class WrongTest(RaisingTest):
    def test_no_text(self):
        for value in ODD_VALUES:
            if not isinstance(value, str):
                self.assert_error(BadText(0, 0), Sheet, value)
        for value in ("", " ", "\n", "  \n \n", "\n" * 2000):
            self.assert_error(BadText(0, 0), Sheet, value)

    def test_a_thousand_lines(self):
        lines = ["names 3", "sort A is one"] + ["say A members 3"] * 998
        self.assertEqual(len(Sheet("\n".join(lines))), 998)
        self.assert_error(TooGreat(1000), Sheet, "\n".join(lines + ["say A members 3"]))
        self.assert_error(TooGreat(1000), Sheet, "\n".join(lines) + "\n")
        self.assert_error(TooGreat(1000), Sheet, "x" + "\n" * 1000)
        self.assertEqual(len(Sheet("names 3" + "\n" * 999)), 0)
        self.assert_error(BadText(999, 0), Sheet, "\n" * 999 + "x")
        self.assertEqual(Sheet("\n" * 999 + "names 3").many, 3)
        lines[0] = "names 6"
        self.assert_error(TooGreat(1000), Sheet, "\n".join(lines + [""]))

    def test_the_first_line(self):
        for text, line, word in (("name 3", 0, 0), ("names", 0, 1), ("names 1", 0, 1), ("names 6", 0, 1), ("names 03", 0, 1),
                                 ("names 3 3", 0, 2), ("\n\nnames\n3", 2, 1), ("sort A is one", 0, 0), ("\nNames 3", 1, 0),
                                 ("names 3\r", 0, 1), ("names\t3", 0, 0), ("names 3\n\nnames 3", 2, 0)):
            self.assert_error(BadText(line, word), Sheet, text)

    def test_lines_that_end_too_early(self):
        begun = ["names 3", "sort S is one", "member P of S is a", "way W is", "derivation D is"]
        lines = ["sort A is list 2 of ( one + S ) * one", "member M of S * one is a b", "way V is transfer a b ; exchange b c",
                 "derivation E is 1 2 square back as one ; parity as S", "say P content 1 0 0", "deny P transfer a b P",
                 "say P transfer a b none", "say P exchange a c P", "say P along W P", "say S members 3",
                 "say S at 1 0 0 members 1", "say S like S + one", "say D from S + S to one + one", "say 1 0 0 evens 0 1 0"]
        for line in lines:
            words = line.split(" ")
            Sheet("\n".join(begun + [line]))
            for at in range(1, len(words)):
                text = "\n".join(begun + [" ".join(words[:at])])
                if self.is_whole(words[:at]):
                    self.assertEqual(Sheet(text).many, 3)
                else:
                    self.assert_error(BadText(5, at), Sheet, text)

    def is_whole(self, words):
        """Whether a line of the test above is one although it was cut off."""
        text = " ".join(words)
        return text in ("sort A is list 2 of ( one + S )", "way V is", "way V is transfer a b", "derivation E is",
                        "derivation E is 1 2 square back as one", "say S like S", "say D from S + S to one")

    def test_words_by_hand(self):
        begun = ["names 3", "sort S is one", "member P of S is a", "way W is", "derivation D is"]
        for line, word in (
                ("x", 0), ("Sort A is one", 0), ("sort", 1), ("sort a is one", 1), ("sort 1A is one", 1), ("sort A_b is one", 1),
                ("sort Aaaaaaaaaaaaa is one", 1), ("sort A is", 3), ("sort A = one", 2), ("sort A is one one", 4),
                ("sort \u00c4 is one", 1), ("sort A\u00e4 is one", 1), ("sort A\u0661 is one", 1), ("sort A-b is one", 1),
                # Given already, not given, given in this very line, of another kind.
                ("sort S is one", 1), ("sort P is one", 1), ("way D is", 1), ("member W of one is a", 1),
                ("derivation S is", 1), ("sort A is B", 3), ("sort A is A", 3), ("sort A is P", 3), ("sort A is one + W", 5),
                ("member M of P is a", 3), ("member M of M is a", 3), ("member M one is a", 2), ("member M of S a", 4),
                ("member M of S is d", 5), ("member M of S is a a", 6), ("member M of none is", 5),
                ("member M of none is a", 5), ("way V is x", 3), ("way V is transfer a a", 5), ("way V is transfer a b ;", 7),
                ("derivation E is one", 3), ("derivation E is square one", 4), ("derivation E is square as", 5),
                ("say", 1), ("say X members 3", 1), ("say W members 3", 1), ("say one members 3", 1), ("say S", 2),
                ("say S content 1 0 0", 2), ("say S members", 3), ("say S members x", 3), ("say S members 03", 3),
                ("say S members -1", 3), ("say S members 3 3", 4), ("say S members \u0663", 3), ("say S members \u00b2", 3),
                ("say S at 1 0 members 3", 5), ("say S at 1 0 25 members 3", 5),
                ("say S at 1 0 0 3", 6), ("say S like", 3), ("say S like X", 3), ("say S like one one", 4), ("say P", 2),
                ("say P members 3", 2), ("say P content 1 0", 5), ("say P content 1 0 0 0", 6), ("say P content 1 0 25", 5),
                ("say P transfer a a none", 4), ("say P transfer a d none", 4), ("say P transfer a b S", 5),
                ("say P transfer a b X", 5), ("say P transfer a b none none", 6), ("say P exchange a b none", 5),
                ("say P exchange a b P P", 6), ("say P along P P", 3), ("say P along X P", 3), ("say P along W none", 4),
                ("say P along W P P", 5), ("say D to one from one", 2), ("say D from one", 4), ("say D from one one", 4),
                ("say D from one to", 5), ("say D from one to one to", 6), ("say 1 0 0 0 evens 1 0 0", 4),
                ("say 1 0 evens 1 0 0", 3), ("say 1 0 0 evens 1 0", 7), ("say 1 0 0 evens 1 0 0 0", 8), ("say 25 0 0", 1),
                ("say say S members 3", 1), ("deny", 1), ("deny X members 3", 1)):
            self.assert_error(BadText(5, word), Sheet, "\n".join(begun + [line]))
            self.assert_error(BadText(7, word), Sheet, "\n".join(begun + ["", "say S members 3", line, "x", "sort"]))

    def test_names_of_all_lengths(self):
        for name in ("A", "Z", "Ab", "A1", "Z9z", "Abcdefghijkl", "A12345678901", "ZZZZZZZZZZZZ"):
            sheet = Sheet(f"names 3\nsort {name} is one\nsay {name} members 3")
            self.assertEqual(sheet.named(name), ("sort", ONE))
            self.assertIs(sheet.all_true(), True)

    def test_when_need_sort_looks(self):
        wrong, great = "family 2 of bag 2", "list 12 of bag 2"
        begun = "names 3\nsort S is one\nderivation D is\n"
        for line, error in (
                # Directly behind the word that follows the sort, or the end of its line.
                (f"sort A is {wrong}", BadSort((2,))), (f"sort A is {great}", TooGreat(12)),
                (f"sort A is {wrong} one", BadText(3, 8)), (f"sort A is one * ( {wrong} )", BadSort((2, 2))),
                (f"member M of {wrong} is", BadSort((2,))), (f"member M of {wrong} is x y z", BadSort((2,))),
                (f"member M of {wrong} x", BadText(3, 8)), (f"member M of {wrong}", BadText(3, 8)),
                (f"derivation E is square as {wrong}", BadSort((2,))),
                (f"derivation E is square as {wrong} ; x", BadSort((2,))),
                (f"derivation E is square as {wrong} ;", BadSort((2,))),
                (f"derivation E is square as {wrong} x", BadText(3, 10)),
                (f"derivation E is square as {great} ; square as {wrong}", TooGreat(12)),
                (f"derivation E is square as one ; square as {great} ; x", TooGreat(12)),
                (f"say S like {wrong}", BadSort((2,))), (f"say S like {wrong} x", BadText(3, 8)),
                (f"say D from {wrong} to", BadSort((2,))), (f"say D from {wrong} to x", BadSort((2,))),
                (f"say D from {wrong}", BadText(3, 8)), (f"say D from {wrong} x", BadText(3, 8)),
                (f"say D from one to {wrong}", BadSort((2,))), (f"say D from one to {wrong} to", BadText(3, 10)),
                (f"say D from {wrong} to {great}", BadSort((2,))), (f"say D from one to {great}", TooGreat(12))):
            self.assert_error(error, Sheet, f"{begun}{line}\nx")
        # Names stand for whole sorts.
        self.assert_error(BadSort((2,)), Sheet, "names 3\nsort A is one * one\nsort B is family 2 of A\nx")
        self.assert_error(TooGreat(12), Sheet, "names 3\nsort A is bag 7\nsort B is A * A\nx")
        names = ["names 3", "sort A0 is one + one"] + [f"sort A{at + 1} is A{at} + one" for at in range(9)]
        self.assert_error(TooGreat(10), Sheet, "\n".join(names))
        self.assertEqual(Sheet("\n".join(names[:-1])).many, 3)

    def test_too_many_words_and_open_parts(self):
        text = " + ".join(["( " * 24 + "one" + " )" * 24] * 8).replace("one", "subset 1", 1)
        self.assertEqual(len(text.split()), 400)
        self.assertEqual(Sheet(f"names 3\nsort A is {text}\nsay A members 24").rows, ((2, True),))
        self.assertIs(Sheet(f"names 3\nmember A of {text} is 1 a").named("A")[0] == "member", True)
        self.assert_error(TooGreat(400), Sheet, f"names 3\nsort A is {text} + one x\nx")
        self.assert_error(BadText(1, 403), Sheet, f"names 3\nsort A is {text} x\nx")
        self.assert_error(TooGreat(400), Sheet, f"names 3\nmember A of {text} * one is x\nx")
        self.assertEqual(Sheet(f"names 3\nsort A is {'( ' * 40}one{' )' * 40}").named("A"), ("sort", ONE))
        self.assert_error(TooGreat(40), Sheet, f"names 3\nsort A is {'( ' * 41}x")
        self.assert_error(TooGreat(40), Sheet, f"names 3\nsort A is one\nsay A like {'( ' * 41}A")
        # A name is one word.
        longer = f"names 3\nsort S is subset 1\nsort A is {text.replace('subset 1', 'S')}"
        self.assertEqual(len(longer.split("\n")[2].split()), 402)
        self.assertEqual(Sheet(longer).named("A")[0], "sort")

    def test_changed_sheets(self):
        chooser = random.Random(17)
        lines = FULL.strip().split("\n")
        words = sorted(set(FULL.split()) | {"x", "0", "25", "list", "(", ")", "rooted", "family", "10", "d", "bag"})
        seen = set()
        for _ in range(700):
            changed = list(lines)
            for _ in range(chooser.choice((1, 1, 1, 2))):
                at = chooser.randrange(len(changed))
                row = changed[at].split()
                kind = chooser.randrange(5)
                place = chooser.randrange(len(row) + 1)
                if kind == 0:
                    row.insert(place, chooser.choice(words))
                elif kind == 1:
                    row[place:place + 1] = [chooser.choice(words)]
                elif kind == 2:
                    del row[place:place + 1]
                elif kind == 3:
                    row = row[:place]
                else:
                    other = chooser.randrange(len(changed))
                    changed[other], changed[at] = changed[at], changed[other]
                    row = changed[at].split()
                changed[at] = " ".join(row)
            text = "\n".join(changed)
            wanted = outcome(read_sheet, text)
            found = outcome(lambda text=text: (lambda sheet: (sheet.many, sheet.rows, str(sheet)))(Sheet(text)))
            self.assertEqual(found, wanted, text)
            seen.add(wanted[0])
        self.assertTrue({3, "BadText"} <= seen, seen)


class WholeTest(RaisingTest):
    def test_by_hand(self):
        self.assertEqual(whole_sheet(2, ONE), "\n".join((
            "names 2", "sort S is one", "say S members 2", "member M0 of S is a", "member M1 of S is b",
            "say M0 content 1 0", "say M0 transfer a b M1", "say M0 transfer b a none",
            "say M1 content 0 1", "say M1 transfer a b none", "say M1 transfer b a M0")))
        self.assertEqual(whole_sheet(3, NONE), "names 3\nsort S is none\nsay S members 0")
        self.assertEqual(whole_sheet(2, EMPTY), "\n".join((
            "names 2", "sort S is subset 0", "say S members 1", "member M0 of S is", "say M0 content 0 0",
            "say M0 transfer a b none", "say M0 transfer b a none")))

    def test_small_sorts(self):
        seen = 0
        for many, sort in SMALL:
            if how_many(many, sort) > 24:
                self.assert_error(TooGreat(24), whole_sheet, many, sort)
                continue
            seen += 1
            text = whole_sheet(many, sort)
            sheet = Sheet(text)
            found = reference.all_members(many, sort)
            self.assertIs(sheet.all_true(), True)
            self.assertEqual(len(sheet), 1 + len(found) * (1 + many * (many - 1)))
            self.assertEqual(sheet.many, many)
            self.assertEqual(sheet.named("S"), ("sort", sort))
            for index, member in enumerate(found):
                self.assertEqual(sheet.named(f"M{index}"), ("member", sort, member))
            self.assert_error(BadName(f"M{len(found)}"), sheet.named, f"M{len(found)}")
            self.assertEqual(text, self.told(many, sort, found))
        self.assertGreater(seen, 20)

    def told(self, many, sort, found):
        """Return the sheet on all members as point 81 tells it."""
        lines = [f"names {many}", f"sort S is {sort_text(many, sort)}", f"say S members {len(found)}"]
        lines += [f"member M{at} of S is {member_text(many, sort, member)}".strip() for at, member in enumerate(found)]
        for at, member in enumerate(found):
            lines.append(f"say M{at} content " + " ".join(map(str, reference.content(many, sort, member))))
            for one in range(many):
                for other in range(many):
                    if one != other:
                        led = reference.transfer(many, sort, member, one, other)
                        goal = "none" if led is None else f"M{found.index(led)}"
                        lines.append(f"say M{at} transfer {'abcde'[one]} {'abcde'[other]} {goal}")
        return "\n".join(lines)

    def test_twenty_four_and_twenty_five_members(self):
        for sort, count in ((("pair", ("subset", 2), ("bag", 1)), 24), (("list", 2, ("subset", 1)), 25)):
            many = 4 if count == 24 else 5
            self.assertEqual(how_many(many, sort), count)
            if count == 24:
                self.assertIs(Sheet(whole_sheet(many, sort)).all_true(), True)
                self.assertEqual(len(members(many, sort)), 24)
            else:
                self.assert_error(TooGreat(24), whole_sheet, many, sort)

    def test_errors_in_their_order(self):
        self.assert_error(BadMany(1), whole_sheet, 1, 5)
        self.assert_error(BadSort(()), whole_sheet, 3, 5)
        self.assert_error(TooGreat(10), whole_sheet, 3, deep(11))
        self.assert_error(TooGreat(24), whole_sheet, 5, ("list", 12, ONE))
