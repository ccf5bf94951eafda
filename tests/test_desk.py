"""Point 24: desks, their rows and their refusals; and point 2 of them."""

import itertools
import random
import unittest

from ownbeat.codes import bits_of, letters, sent
from ownbeat.desk import Desk
from ownbeat.errors import BeatError, NoCode, NoLetter, NoName, NoRow, NoText, NoWire
from ownbeat.leaning import lean
from ownbeat.marks import marks
from ownbeat.reading import late, read
from ownbeat.settling import settles
from ownbeat.stillness import still
from ownbeat.texts import show
from ownbeat.windows import least_window
from samples import ANYTHING, ANYWHERE, BALANCED, BIPHASE, BLIND, EIGHT, NAMED, ONE_LATE, SIX, THREE, TURNING, level_codes, small_codes, wide_codes

# Rows of each kind by which a desk answers, but for the name.
ASKED = ["send {} 01", "send {} -", "read {} 01", "read {} -", "late {}", "still {}", "settle {}", "lean {}", "window {}", "marks {} 3"]


def desk_of(**codes):
    desk = Desk()
    for name, code in codes.items():
        desk.say(f"code {name} {show(code)}")
    return desk


def told_number(number):
    return "none" if number is None else f"{number}"


def told_pair(pair):
    return "none" if pair is None else f"{pair[0]} {pair[1]}"


def answers(desk):
    """All that a desk tells, by which it is seen whether anything is changed."""
    told = [desk.names()]
    for name in desk.names():
        for row in ASKED + ["marks {} 1", "marks {} 5", "send {} 000000011111010110"]:
            try:
                told.append(desk.say(row.format(name)))
            except BeatError as error:
                told.append(type(error))
    return told


class Rows(unittest.TestCase):
    def test_by_hand(self):
        desk = Desk()
        for row, answer in (("code a 1 2 01>0,10>0", "ok"), ("send a 011", "011010"), ("send a -", "-"), ("read a 011010", "011"),
                            ("read a 01101", "011"), ("read a -", "-"), ("late a", "0"), ("still a", "2"), ("settle a", "0"), ("lean a", "-1 1"),
                            ("window a", "0 0"), ("marks a 3", "000 111"), ("marks a 1", "none"), ("marks a 2", "none"),
                            ("code turn 1 1 0>0,1>1 1>1,0>0", "ok"), ("send turn 1011", "1101"), ("read turn 1101", "1011"), ("still turn", "none"),
                            ("lean turn", "none"), ("settle turn", "1"), ("window turn", "1 0"), ("late turn", "0"), ("marks turn 8", "none"),
                            ("code late 1 1 0>1,0>2 0>1,0>2 1>1,1>2", "ok"), ("late late", "1"), ("read late 0", "-"), ("read late 01", "1"),
                            ("read late 0100", "100"), ("settle late", "none"), ("window late", "0 1"),
                            ("code blind 1 2 01>0,01>0", "ok"), ("late blind", "none"), ("still blind", "1"), ("window blind", "none"),
                            ("settle blind", "0"), ("marks blind 2", "00 11")):
            self.assertEqual(desk.say(row), answer, row)
        self.assertEqual(desk.names(), ["a", "blind", "late", "turn"])

    def test_letters_of_more_bits(self):
        desk = desk_of(three=THREE, six=SIX)
        self.assertEqual(desk.say("send three 101000"), "101000")
        self.assertEqual(desk.say("read three 101000"), "101000")
        # Of the cut word a beginning is known, but not its letter.
        self.assertEqual(desk.say("read three 10100"), "101")
        self.assertEqual(desk.say("read three 1"), "-")
        self.assertEqual(desk.say("send six 0111"), sent(SIX, 0, [1, 3])[0])
        self.assertEqual(desk.say("read six " + sent(SIX, 0, [1, 3, 0])[0]), "011100")

    def test_as_the_stages_tell(self):
        chance = random.Random(230)
        found = {}
        for code in NAMED + ANYWHERE + wide_codes(231, 40) + small_codes(232, 20) + level_codes(233, 15):
            desk = desk_of(x=code)
            for verb, answer in (("late", told_number(late(code))), ("still", told_number(still(code))), ("settle", told_number(settles(code))),
                                 ("lean", told_pair(lean(code))), ("window", told_pair(least_window(code)))):
                self.assertEqual(desk.say(f"{verb} x"), answer, (verb, code))
                found[(verb, answer == "none")] = True
            for length in range(1, 9):
                answer = " ".join(marks(code, length)) or "none"
                self.assertEqual(desk.say(f"marks x {length}"), answer)
                found[("marks", answer == "none")] = True
            bits = [chance.randrange(2) for _ in range(code[0] * chance.randint(0, 12))]
            self.sends_and_reads(desk, code, bits)
        self.assertEqual(len(found), 12)

    def sends_and_reads(self, desk, code, bits):
        wire = sent(code, 0, letters(code[0], bits))[0]
        self.assertEqual(desk.say("send x " + ("".join(map(str, bits)) or "-")), wire or "-")
        if late(code) is None:
            return
        for cut in sorted({0, 1, len(wire) // 2, max(len(wire) - 1, 0), len(wire)}):
            told = "".join(map(str, bits_of(code[0], read(code, wire[:cut])))) or "-"
            self.assertEqual(desk.say("read x " + (wire[:cut] or "-")), told)

    def test_long_rows(self):
        desk = desk_of(a=BIPHASE, t=TURNING)
        bits = "0111" * 500
        wire = desk.say("send a " + bits)
        self.assertEqual(len(wire), 4000)
        self.assertEqual(desk.say("read a " + wire), bits)
        self.assertEqual(desk.say("read t " + "01" * 2400), "0" + "1" * 4799)


class Names(unittest.TestCase):
    def test_none_at_first(self):
        self.assertEqual(Desk().names(), [])

    def test_in_order_of_letters(self):
        desk = Desk()
        names = ["b", "a", "zz", "ab", "aa", "abcdefgh", "z", "code", "none", "ba"]
        for count, name in enumerate(names):
            self.assertEqual(desk.say(f"code {name} 1 2 01>0,10>0"), "ok")
            self.assertEqual(desk.names(), sorted(names[:count + 1]))
        self.assertIsInstance(desk.names(), list)

    def test_all_letters_and_lengths(self):
        desk = Desk()
        for name in list("abcdefghijklmnopqrstuvwxyz") + ["x" * count for count in range(2, 9)] + ["send", "late", "abcdefgh"]:
            self.assertEqual(desk.say(f"code {name} 1 1 0>0,1>0"), "ok")
            self.assertEqual(desk.say(f"send {name} 01"), "01")
            self.assertIn(name, desk.names())

    def test_taken_again(self):
        desk = desk_of(a=BIPHASE, b=BIPHASE)
        self.assertEqual(desk.say("send a 01"), "0110")
        self.assertEqual(desk.say("code a 1 1 0>0,1>1 1>1,0>0"), "ok")
        self.assertEqual(desk.names(), ["a", "b"])
        self.assertEqual(desk.say("send a 011"), "010")
        self.assertEqual(desk.say("still a"), "none")
        self.assertEqual(desk.say("send b 01"), "0110")
        self.assertEqual(answers(desk), answers(desk_of(a=TURNING, b=BIPHASE)))

    def test_more_than_one_desk(self):
        one, other = desk_of(a=BIPHASE, b=BLIND), Desk()
        self.assertEqual(other.names(), [])
        with self.assertRaises(NoName):
            other.say("late a")
        other.say("code a " + show(TURNING))
        self.assertEqual((one.say("send a 11"), other.say("send a 11")), ("1010", "10"))
        one.say("code c " + show(SIX))
        self.assertEqual((one.names(), other.names()), (["a", "b", "c"], ["a"]))
        self.assertEqual(Desk().names(), [])


class Refused(unittest.TestCase):
    def setUp(self):
        self.desk = desk_of(a=BIPHASE, two=SIX, blind=BLIND, turn=TURNING, late=ONE_LATE)
        self.told = answers(self.desk)

    def tearDown(self):
        # What is refused changes nothing.
        self.assertEqual(answers(self.desk), self.told)

    def refused(self, row, error):
        with self.assertRaises(error, msg=repr(row)) as caught:
            self.desk.say(row)
        self.assertIs(type(caught.exception), error, row)
        return caught.exception

    def test_anything(self):
        for thing in ANYTHING + [[], [0], ["late a"], ("late", "a"), b"late a", {"late": "a"}, Desk(), BIPHASE]:
            self.refused(thing, NoRow)

    def test_no_such_rows(self):
        for row in ("", " ", "  ", "x", "late", "code", "send", "names", "ok", "a", "a late", "say late a", "Late a", "LATE a", "lates a", "lat a",
                    "leans a", "settles a", "windows a", "mark a 3", "marks", "reads a 01", "late a a", "late a 1", "still a 2", "settle a 0", "lean a 0 1",
                    "window a 0 0", "send a", "read a", "marks a", "send a 01 10", "read a 01 10", "send a 0 1", "marks a 3 4", "late,a", "late-a", "none",
                    "-", "send", "send 01", "read 01", "marks 3", "code a", "code two", "codes a 1 2 01>0,10>0", "a 1 2 01>0,10>0", "1 2 01>0,10>0",
                    "read_plain a 01", "plain a", "sent a 01", "ends a 01", "show a", "quiet a"):
            self.refused(row, NoRow)

    def test_a_blank_ahead_behind_or_twice(self):
        for row in ASKED:
            row = row.format("a")
            self.desk.say(row)
            for place in [at for at, sign in enumerate(row) if sign == " "]:
                self.refused(row[:place] + " " + row[place:], NoRow)
                self.refused(row[:place] + row[place + 1:], NoRow)
            self.refused(" " + row, NoRow)
            self.refused(row + " ", NoRow)
            for sign in "\t\n\r\x0b\x1c\u00a0\u2003":
                self.refused(row.replace(" ", sign), NoRow)
                self.refused(row.replace(" ", sign, 1), NoRow)
                self.refused(sign + row, NoRow)
                self.refused(row + sign, NoRow)
        self.refused(" code a 1 2 01>0,10>0", NoRow)
        self.refused("code  a 1 2 01>0,10>0", NoRow)
        self.refused("code  1 2 01>0,10>0", NoRow)
        self.refused("code a\t1 2 01>0,10>0", NoRow)
        self.refused("codea 1 2 01>0,10>0", NoRow)

    def test_words_that_are_no_names(self):
        for name in ("", "A", "aB", "a1", "1", "0", "-", "a-b", "a_b", "_", "abcdefghi", "a" * 9, "a" * 4000, "a.", "\u00e4", "\u03b1", "\u00df", "\u0430", "\uff41",
                     "\u00aa", "a\n", "a\t", "a,b", ">"):
            for row in ASKED + ["code {} 1 2 01>0,10>0", "code {} ", "code {} x"]:
                self.refused(row.format(name), NoRow)

    def test_bits_and_wires_that_are_none(self):
        for word in ("", "2", "x", "012", "01x", "x01", "--", "-0", "0-", "-1", "+1", "0,1", "01\n", "\u0660", "\u00b9", "\uff10", "none", "0b1", "0" * 500 + "2"):
            for name in ("a", "blind", "nobody"):
                self.refused(f"send {name} {word}", NoRow)
                self.refused(f"read {name} {word}", NoRow)

    def test_lengths(self):
        for length in range(1, 9):
            self.desk.say(f"marks a {length}")
        for word in ("", "0", "9", "10", "12", "18", "81", "01", "08", "-1", "+1", "-", "x", "1.", "3x", "none", "\u0663", "\u00b3", "\uff13", "12345678", "23"):
            for name in ("a", "nobody"):
                self.refused(f"marks {name} {word}", NoRow)

    def test_no_name(self):
        for name in ("b", "aa", "nobody", "lat", "none", "code", "abcdefgh"):
            for row in ASKED:
                self.refused(row.format(name), NoName)
            # Ahead of what the stages refuse.
            self.refused(f"send {name} 011", NoName)
            self.refused(f"read {name} 00", NoName)
        for row in ASKED:
            with self.assertRaises(NoName):
                Desk().say(row.format("a"))

    def test_no_text(self):
        for name in ("a", "blind", "other"):
            for text in ("", " ", "x", "1", "1 2", "1 2 ", " 1 2 01>0,10>0", "1 2 01>0,10>0 ", "1  2 01>0,10>0", "1 2  01>0,10>0", "1 2 01>0,10>1",
                         "1 2 01>0", "1 2 01>0 10>0", "01 2 01>0,10>0", "+1 2 01>0,10>0", "1 2 01>00,10>0", "a 1 2 01>0,10>0", "-", "4 2 01>0,10>0",
                         "1 7 0101010>0,1010101>0", "1 2" + " 01>0,10>0" * 9, "x" * 4900):
                self.refused(f"code {name} {text}", NoText)
        self.assertNotIn("other", self.desk.names())
        self.assertEqual(self.desk.say("send a 01"), "0110")

    def test_no_letter(self):
        for bits in ("0", "1", "011", "01010"):
            self.refused(f"send two {bits}", NoLetter)
        self.desk.say("code three " + show(THREE))
        self.told = answers(self.desk)
        for bits in ("0", "01", "0110", "11111"):
            self.refused(f"send three {bits}", NoLetter)

    def test_no_code_ahead_of_no_wire(self):
        for wire in ("-", "0", "01", "0101", "11", "00"):
            self.refused(f"read blind {wire}", NoCode)

    def test_no_wire(self):
        for row, at in (("read a 00", 0), ("read a 0111", 1), ("read a 011011", 2), ("read late 1", 0), ("read late 11", 0), ("read two 11", 0),
                        ("read two 1", None), ("read a 01100", None), ("read two 011010010011", 1)):
            if at is None:
                self.desk.say(row)
            else:
                self.assertEqual(self.refused(row, NoWire).at, at)

    def test_of_refused_rows_all_pairs(self):
        # Where a row is wrong in two ways, the first in order is told.
        for verb, name, word in itertools.product(("send", "read", "marks", "code", "late", "x"), ("a", "nobody", "A", ""), ("", "x", "00", "01", "3")):
            row = f"{verb} {name} {word}"
            is_row = name in ("a", "nobody") and (verb == "code" or (verb in ("send", "read") and word in ("00", "01")) or (verb == "marks" and word == "3"))
            if not is_row:
                self.refused(row, NoRow)
            elif verb == "code":
                self.refused(row, NoText)
            elif name == "nobody":
                self.refused(row, NoName)
            elif row == "read a 00":
                self.refused(row, NoWire)
            else:
                self.desk.say(row)


class NothingKept(unittest.TestCase):
    def test_told_names_are_the_askers_own(self):
        for desk, kept in ((Desk(), []), (desk_of(b=BIPHASE, a=BLIND), ["a", "b"])):
            told = desk.names()
            self.assertIsNot(told, desk.names())
            told.append("x")
            told.reverse()
            self.assertEqual(desk.names(), kept)
            with self.assertRaises(NoName):
                desk.say("late x")

    def test_asked_again(self):
        desk = desk_of(a=BIPHASE, b=ONE_LATE, c=EIGHT, d=BALANCED, e=BLIND)
        told = answers(desk)
        for _ in range(3):
            self.assertEqual(answers(desk), told)


if __name__ == "__main__":
    unittest.main()
