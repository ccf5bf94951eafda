"""Point 23: codes written as texts and read back; and point 2 of them."""

import copy
import itertools
import random
import unittest

from ownbeat.codes import is_code
from ownbeat.errors import NoText
from ownbeat.texts import read_code, show
from samples import ANYTHING, ANYWHERE, BIPHASE, NAMED, ONE_LATE, THREE, TURNING, level_codes, small_codes, wide_codes

TEXTS = {"1 2 01>0,10>0": BIPHASE,
         "1 1 0>0,1>1 1>1,0>0": TURNING,
         "1 1 0>1,0>2 0>1,0>2 1>1,1>2": ONE_LATE,
         "3 3 000>0,001>0,010>0,011>0,100>0,101>0,110>0,111>0": THREE,
         "2 1 0>0,0>0,1>0,1>0": (2, 1, [[("0", 0), ("0", 0), ("1", 0), ("1", 0)]])}
GREATEST = (3, 6, [[("010101", 7), ("101010", 0)] * 4] * 8)


def all_codes():
    return list(TEXTS.values()) + NAMED + ANYWHERE + [GREATEST] + wide_codes(220, 120) + small_codes(221, 60) + level_codes(222, 30)


def slow_text(code):
    text = f"{code[0]} {code[1]}"
    for state in code[2]:
        text += " "
        for letter, (word, to) in enumerate(state):
            text += ("," if letter else "") + word + ">" + "01234567"[to]
    return text


def nearly(text):
    """The text with one sign out, one more, one in the place of another, or two turned about."""
    found = set()
    for place in range(len(text) + 1):
        found.add(text[:place] + text[place + 1:])
        found.add(text[:place] + text[place + 1:place + 2] + text[place:place + 1] + text[place + 2:])
        for sign in " ,>01238-+_.x\n\t":
            found.add(text[:place] + sign + text[place:])
            found.add(text[:place] + sign + text[place + 1:])
    return sorted(found)


class Show(unittest.TestCase):
    def test_by_hand(self):
        for text, code in TEXTS.items():
            self.assertEqual(show(code), text)

    def test_all_sizes(self):
        for code in all_codes():
            told = show(code)
            self.assertIsInstance(told, str)
            self.assertEqual(told, slow_text(code))

    def test_unlike_codes_are_written_unlike(self):
        codes = all_codes()
        texts = {show(code): code for code in codes}
        for code in codes:
            self.assertEqual(texts[show(code)], code)
        self.assertGreater(len(texts), 200)


class ReadCode(unittest.TestCase):
    def test_by_hand(self):
        for text, code in TEXTS.items():
            self.assertEqual(read_code(text), code)

    def test_written_is_read_back(self):
        for code in all_codes():
            told = read_code(show(code))
            self.assertIs(is_code(told), True)
            self.assertEqual(told, code)
            self.assertEqual(show(told), show(code))

    def test_nearly(self):
        texts = list(TEXTS) + [show(GREATEST)[:9]] + [show(code) for code in wide_codes(223, 6)]
        read, refused = 0, 0
        for text in texts:
            for near in nearly(text):
                try:
                    told = read_code(near)
                except NoText:
                    refused += 1
                    continue
                # What writes a code is just what is written for it.
                self.assertIs(is_code(told), True, near)
                self.assertEqual(slow_text(told), near)
                read += 1
        self.assertGreater(read, 100)
        self.assertGreater(refused, 1000)

    def test_all_short_texts(self):
        # None is as short as this, whatever its signs.
        for length in range(5):
            for signs in itertools.product("01 ,>", repeat=length):
                self.refused("".join(signs))

    def test_numbers(self):
        for number in ("", "0", "00", "01", "+1", "-1", " 1", "1 ", "1.0", "1_0", "4", "7", "9", "10", "x", "\u0661", "\u00b9", "\uff11", "one"):
            self.refused(f"{number} 2 01>0,10>0")
        for number in ("", "0", "1", "3", "02", "+2", "-2", " 2", "2 ", "7", "9", "10", "22", "x", "\u0662", "\u00b2", "\uff12"):
            self.refused(f"1 {number} 01>0,10>0")
        for number in ("", "1", "00", "+0", "-0", "-1", " 0", "0 ", "7", "9", "10", "x", "\u0660", "\u2070", "\uff10"):
            self.refused(f"1 2 01>{number},10>0")
            self.refused(f"1 2 01>0,10>{number}")

    def test_next_states_that_are_not_there(self):
        for count in range(1, 9):
            states = " ".join(["01>0,10>0"] * (count - 1))
            for to in range(12):
                text = " ".join(part for part in ("1 2", states, f"01>0,10>{to}") if part)
                if to < count:
                    self.assertEqual(read_code(text)[2][-1], [("01", 0), ("10", to)])
                else:
                    self.refused(text)

    def test_bounds(self):
        self.refused("1 2")
        self.refused("1 2 ")
        self.assertEqual(len(read_code("1 2" + " 01>0,10>0" * 8)[2]), 8)
        self.refused("1 2" + " 01>0,10>0" * 9)
        self.refused("0 2 01>0")
        self.refused("4 2 " + ",".join(["01>0"] * 16))
        self.refused("1 0 >0,>0")
        self.refused("1 7 0101010>0,1010101>0")
        for k, count in itertools.product((1, 2, 3), range(1, 12)):
            text = f"{k} 2 " + ",".join(["01>0"] * count)
            if count == 2 ** k:
                self.assertEqual(read_code(text), (k, 2, [[("01", 0)] * count]))
            else:
                self.refused(text)

    def test_words(self):
        for word in ("", "0", "1", "010", "02", "0x", "0 ", " 1", "0\n", "--", "\u0660\u0661", "\uff10\uff11", "\u00b9\u00b9"):
            self.refused(f"1 2 {word}>0,10>0")
            self.refused(f"1 2 01>0,{word}>0")

    def test_blanks_commas_and_the_like(self):
        for text in (" 1 2 01>0,10>0", "1 2 01>0,10>0 ", "1  2 01>0,10>0", "1 2  01>0,10>0", "12 01>0,10>0", "1 201>0,10>0", "1 2,01>0,10>0",
                     "1,2 01>0,10>0", "1 2 01>0, 10>0", "1 2 01>0 ,10>0", "1 2 01>0 10>0", "1 2 01 >0,10>0", "1 2 01> 0,10>0", "1 2 01>0,,10>0",
                     "1 2 ,01>0,10>0", "1 2 01>0,10>0,", "1 2 01>>0,10>0", "1 2 01>0>,10>0", "1 2 >01>0,10>0", "1 2 01>0>0,10>0", "1 2 010,100",
                     "1 2 01,0>10,0", "1 2 0>01,0>10", "1 2 01<0,10<0", "1 2 01>0;10>0", "1\t2\t01>0,10>0", "1 2 01>0,10>0\n", "\n1 2 01>0,10>0",
                     "1 2\n01>0,10>0", "1 2 01>0,10>0\r", "1\u00a02 01>0,10>0", "1 1 0>0,1>1 1>1,0>0 ", "1 1 0>0,1>1  1>1,0>0",
                     "1 1 0>0,1>1,1>1,0>0", "", " ", "  ", ",", ">", "1", "code", "ok", "(1, 2, [[('01', 0), ('10', 0)]])", " " * 5000,
                     "," * 5000, "1 2 " + "01>0," * 900, "0" * 5000):
            self.refused(text)

    def test_anything(self):
        for thing in ANYTHING + [[], [0], BIPHASE, ["1 2 01>0,10>0"], b"1 2 01>0,10>0", ("1 2 01>0,10>0",), 12]:
            self.refused(thing)

    def refused(self, thing):
        with self.assertRaises(NoText, msg=repr(thing)):
            read_code(thing)


class NothingKept(unittest.TestCase):
    def test_nothing_is_changed(self):
        for code in all_codes()[:60]:
            handed = copy.deepcopy(code)
            self.assertEqual(show(handed), show(handed))
            self.assertEqual(handed, code)

    def test_told_lists_are_the_askers_own(self):
        for text, code in TEXTS.items():
            told, again = read_code(text), read_code(text)
            lists = [told[2], again[2]] + told[2] + again[2]
            self.assertEqual(len({id(one) for one in lists}), len(lists))
            told[2][0][0] = ("x", 9)
            told[2].append([])
            self.assertEqual(again, code)
            self.assertEqual(read_code(text), code)

    def test_like_states_are_lists_of_their_own(self):
        states = read_code("1 2" + " 01>0,10>0" * 8)[2]
        states[0].clear()
        self.assertEqual(states[1:], [BIPHASE[2][0]] * 7)

    def test_a_code_that_is_changed_is_asked_anew(self):
        code = copy.deepcopy(BIPHASE)
        self.assertEqual(show(code), "1 2 01>0,10>0")
        code[2][0][1] = ("11", 0)
        self.assertEqual(show(code), "1 2 01>0,11>0")


if __name__ == "__main__":
    unittest.main()
