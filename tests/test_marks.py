"""Points 17 and 18: marks, clean marks, frames put together and taken apart; and point 2 of them."""

import copy
import itertools
import random
import unittest

from ownbeat.codes import sent
from ownbeat.errors import NoLetter, NoMark, NoWire
from ownbeat.marks import apart, framed, is_clean, is_mark, marks
from samples import (ANYTHING, ANYWHERE, BALANCED, BIPHASE, BLIND, EIGHT, FAR_BLIND, NAMED, NO_TEXTS, ONE_LATE, SIX, THREE, TURNING,
                     rows, small_codes, states_come_to, wide_codes, wire_of)

ONES = (1, 2, [[("11", 0), ("11", 0)]])
ONE_BY_ONE = (1, 1, [[("1", 0), ("1", 0)]])
# 110 at the wire's beginning alone, ones for ever behind it; and the same turned round, as far as a wire can be.
BEGINS = (1, 3, [[("110", 1), ("110", 1)], [("111", 1), ("111", 1)]])
ENDS = (1, 3, [[("111", 0), ("011", 1)], [("111", 1), ("111", 1)]])


def signs_of(length):
    return ["".join(signs) for signs in itertools.product("01", repeat=length)]


def some_signs(chance, length):
    """All that are short, and some of the others."""
    return signs_of(length) if length < 5 else chance.sample(signs_of(length), 20)


def standing_in_wires(code, length):
    """All that stands in the wires of so many words that so many signs can touch, from each state that can be come to."""
    words = (length - 2) // code[1] + 2 if length > 1 else 1
    found = set()
    for state in states_come_to(code):
        for row in rows(code, words):
            wire = wire_of(code, state, row)
            found.update(wire[place:place + length] for place in range(len(wire) - length + 1))
    return found


def places_of(mark, wire):
    return [place for place in range(len(wire)) if wire.startswith(mark, place)]


def put_together(code, mark, texts):
    """The frames, and the places where the mark was put."""
    wire, places = mark, [0]
    for text in texts:
        wire += wire_of(code, 0, text)
        places.append(len(wire))
        wire += mark
    return wire, places


def slow_clean(code, mark):
    """By all texts that come to any state and go on as far as a mark can touch."""
    if mark in standing_in_wires(code, len(mark)):
        return False
    longest = len(states_come_to(code)) - 1 + -(-len(mark) // code[1])
    for length in range(longest + 1):
        for text in rows(code, length):
            wire, places = put_together(code, mark, [text])
            if places_of(mark, wire) != places:
                return False
    return True


def slow_apart(mark, wire):
    """Told are the wires between, or None."""
    if not wire.startswith(mark):
        return None
    told, place, begun = [], len(mark), len(mark)
    while place < len(wire):
        if wire[place:place + len(mark)] == mark:
            told.append(wire[begun:place])
            place += len(mark)
            begun = place
        else:
            place += 1
    return told if begun == len(wire) else None


def clean_marks(code, length):
    return [mark for mark in marks(code, length) if is_clean(code, mark)]


class Marks(unittest.TestCase):
    def test_by_hand(self):
        self.assertEqual(marks(BIPHASE, 1), [])
        self.assertEqual(marks(BIPHASE, 2), [])
        self.assertEqual(marks(BIPHASE, 3), ["000", "111"])
        self.assertEqual(marks(BIPHASE, 4), ["0000", "0001", "0111", "1000", "1110", "1111"])
        self.assertEqual(marks(BLIND, 2), ["00", "11"])
        self.assertEqual(marks(BLIND, 3), ["000", "001", "011", "100", "110", "111"])
        self.assertEqual(marks(ONES, 1), ["0"])
        self.assertEqual(marks(ONES, 2), ["00", "01", "10"])
        for length in range(1, 9):
            self.assertEqual(marks(THREE, length), [])
            self.assertEqual(marks(TURNING, length), [])
            self.assertEqual(len(marks(ONES, length)), 2 ** length - 1)
        # A wire that begins with a nought, and may go on with any sign.
        self.assertEqual(marks(ONE_LATE, 8), [])
        self.assertEqual(marks((1, 1, [[("0", 1), ("0", 1)], [("1", 1), ("1", 1)]]), 2), ["00", "10"])

    def test_states_not_come_to(self):
        for length in range(1, 9):
            self.assertEqual(marks(FAR_BLIND, length), marks(BIPHASE, length))
        self.assertIs(is_mark(FAR_BLIND, "111"), True)
        self.assertIs(is_mark((1, 2, [[("01", 0), ("10", 1)], FAR_BLIND[2][1]]), "111"), False)

    def test_against_all_wires(self):
        chance = random.Random(109)
        found = {}
        for code in NAMED + ANYWHERE + [BEGINS, ENDS] + small_codes(110, 40):
            for length in range(1, 9):
                if 2 ** (code[0] * ((length - 2) // code[1] + 2)) > 600:
                    continue
                standing = standing_in_wires(code, length)
                told = marks(code, length)
                self.assertIsInstance(told, list)
                self.assertEqual(told, [signs for signs in signs_of(length) if signs not in standing], (code, length))
                for signs in some_signs(chance, length):
                    self.assertIs(is_mark(code, signs), signs not in standing)
                found[(length, len(told) > 0)] = True
        for length in range(1, 9):
            self.assertIn((length, True), found)
            self.assertIn((length, False), found)

    def test_no_text_makes_a_mark(self):
        chance = random.Random(111)
        for code in wide_codes(112, 60):
            wire = sent(code, 0, [chance.randrange(2 ** code[0]) for _ in range(300)])[0]
            for length in range(1, 9):
                self.assertTrue(all(mark not in wire for mark in marks(code, length)))

    def test_wide_codes_are_told_alike(self):
        chance = random.Random(107)
        for code in wide_codes(113, 40):
            for length in range(1, 9):
                told = marks(code, length)
                self.assertEqual(told, sorted(set(told)))
                for signs in some_signs(chance, length):
                    self.assertIs(is_mark(code, signs), signs in told)

    def test_a_mark_touches_wires_wherever_they_are(self):
        # Only at the end of a long way stands what would be a mark otherwise.
        states = [[("0", state + 1), ("0", state + 1)] for state in range(7)] + [[("1", 7), ("1", 7)]]
        self.assertEqual(marks((1, 1, states), 8), [signs for signs in signs_of(8) if "10" in signs or signs == "0" * 8])
        self.assertIs(is_mark((1, 1, states), "00000001"), False)
        self.assertIs(is_mark((1, 1, states), "00000000"), True)

    def test_anything(self):
        for thing in ANYTHING + [[], ["000"], ("000",), b"000", 0, 111, "", "x", "00x", " 000", "000 ", "000\n", "2", "000000000",
                                 "111111111", "0" * 5000, "\u0660\u0660\u0660", "\uff10\uff10\uff10", "00\u00b9"]:
            self.assertIs(is_mark(BIPHASE, thing), False, thing)
            self.assertIs(is_clean(BIPHASE, thing), False, thing)
        for thing in ("", "000000000", "0" * 9, "x"):
            self.assertIs(is_mark(ONES, thing), False)
            self.assertIs(is_clean(ONES, thing), False)

    def test_lengths_beyond(self):
        self.assertEqual(marks(ONES, 0), [])
        self.assertEqual(marks(ONES, 9), [])
        self.assertEqual(marks(ONES, -1), [])


class Clean(unittest.TestCase):
    def test_by_hand(self):
        # The mark's end and the wire's beginning make it again, or the wire's end and the mark's beginning.
        self.assertIs(is_clean(BIPHASE, "000"), False)
        self.assertIs(is_clean(BIPHASE, "111"), False)
        self.assertIs(is_clean(BIPHASE, "0001"), True)
        self.assertIs(is_clean(BIPHASE, "0000"), False)
        self.assertIs(is_clean(BIPHASE, "01"), False)
        self.assertIs(is_clean(ONES, "0"), True)
        self.assertIs(is_clean(ONES, "01"), True)
        self.assertIs(is_clean(ONES, "1"), False)

    def test_by_texts_without_letters_alone(self):
        # Two of the mark side by side have it in their midst; with a wire between they have not.
        for code, mark in ((ONES, "00"), (ONES, "0101"), (ONES, "010010"), (ONES, "0" * 8), (BLIND, "1010")):
            self.assertIs(is_clean(code, mark), False, mark)
        self.assertEqual(places_of("0101", "0101" + "11" + "0101"), [0, 6])

    def test_by_the_wires_beginning_alone(self):
        self.assertIs(is_mark(BEGINS, "0110"), True)
        self.assertEqual(places_of("0110", "0110" + "0110"), [0, 4])
        self.assertIs(is_clean(BEGINS, "0110"), False)
        self.assertIs(is_clean(BEGINS, "0100"), True)

    def test_by_the_wires_end_alone(self):
        self.assertIs(is_mark(ENDS, "0110"), True)
        self.assertEqual(places_of("0110", "0110" + "111" + "0110"), [0, 7])
        # The wire ends with 011, behind a letter or more.
        self.assertEqual(places_of("0110", "0110" + "111011" + "0110"), [0, 7, 10])
        self.assertIs(is_clean(ENDS, "0110"), False)

    def test_by_a_short_wire_between(self):
        # The mark's end, a wire of one word, and the next mark's beginning.
        self.assertEqual(places_of("010", "010" + "1" + "010"), [0, 2, 4])
        self.assertIs(is_clean(ONE_BY_ONE, "010"), False)
        self.assertIs(is_clean(ONES, "010"), True)
        self.assertIs(is_clean(ONES, "0110"), False)
        self.assertIs(is_clean(ONES, "01110"), True)
        self.assertIs(is_clean(ONES, "011110"), False)

    def test_marks_that_overlap_themselves_may_be_clean(self):
        for code, mark in ((ONES, "010"), (ONES, "101"), (ONES, "01110"), (ONES, "1001")):
            self.assertTrue(any(mark.startswith(mark[place:]) for place in range(1, len(mark))))
            self.assertIs(is_clean(code, mark), slow_clean(code, mark), mark)
        self.assertIs(is_clean(ONES, "101"), True)

    def test_states_not_come_to(self):
        for length in range(1, 8):
            self.assertEqual(clean_marks(FAR_BLIND, length), clean_marks(BIPHASE, length))

    def test_against_all_texts(self):
        chance = random.Random(108)
        told = {}
        for code in [BIPHASE, BLIND, FAR_BLIND, BALANCED, ONES, ONE_BY_ONE, BEGINS, ENDS] + small_codes(114, 40):
            for length in range(1, 9):
                if 2 ** (code[0] * (len(states_come_to(code)) - 1 + -(-length // code[1]))) > 300:
                    continue
                standing = standing_in_wires(code, length)
                for mark in some_signs(chance, length):
                    truth = mark not in standing and slow_clean(code, mark)
                    self.assertIs(is_clean(code, mark), truth, (code, mark))
                    told[(length, truth)] = True
        for length in range(1, 9):
            self.assertIn((length, True), told)
            self.assertIn((length, False), told)

    def test_stands_nowhere_but_where_it_was_put(self):
        chance = random.Random(115)
        found = {}
        for code in [BIPHASE, SIX, EIGHT] + wide_codes(116, 80):
            for length in range(1, 9):
                known = marks(code, length)
                for mark in [mark for mark in chance.sample(known, min(4, len(known))) if is_clean(code, mark)]:
                    texts = [[chance.randrange(2 ** code[0]) for _ in range(chance.choice((0, 0, 1, 1, 2, 3, 9)))] for _ in range(30)]
                    wire, places = put_together(code, mark, texts)
                    self.assertEqual(places_of(mark, wire), places)
                    found[length] = True
        self.assertEqual(sorted(found), list(range(1, 9)))


class Frames(unittest.TestCase):
    def test_by_hand(self):
        self.assertEqual(framed(BIPHASE, "0001", [[0, 1], [], [1]]), "0001" + "0110" + "0001" + "0001" + "10" + "0001")
        self.assertEqual(apart(BIPHASE, "0001", "0001" "0110" "0001" "0001" "10" "0001"), ["0110", "", "10"])
        # Each wire is one from state 0, not from the state behind the one ahead.
        self.assertEqual(framed(BALANCED, clean_marks(BALANCED, 6)[0], [[0], [0]]).count("11"),
                         2 + 3 * clean_marks(BALANCED, 6)[0].count("11"))
        self.assertEqual(framed(BEGINS, "0100", [[0], [0, 1]]), "0100" "110" "0100" "110111" "0100")

    def test_no_texts(self):
        self.assertEqual(framed(BIPHASE, "0001", []), "0001")
        self.assertEqual(apart(BIPHASE, "0001", "0001"), [])

    def test_texts_without_letters(self):
        self.assertEqual(framed(BIPHASE, "0001", [[]]), "00010001")
        self.assertEqual(apart(BIPHASE, "0001", "00010001"), [""])
        self.assertEqual(framed(ONES, "0", [[], [], []]), "0000")
        self.assertEqual(apart(ONES, "0", "0000"), ["", "", ""])

    def test_put_together_is_taken_apart(self):
        chance = random.Random(117)
        found = {}
        for code in NAMED + ANYWHERE + [ONES, BEGINS, ENDS] + wide_codes(118, 60):
            for length in range(1, 9):
                known = marks(code, length)
                mark = chance.choice(known) if known else ""
                if not is_clean(code, mark):
                    continue
                found[length] = True
                for count in (0, 1, 4):
                    texts = [[chance.randrange(2 ** code[0]) for _ in range(chance.randint(0, 4))] for _ in range(count)]
                    wire = framed(code, mark, texts)
                    self.assertEqual(wire, put_together(code, mark, texts)[0])
                    told = apart(code, mark, wire)
                    self.assertIsInstance(told, list)
                    self.assertEqual(told, [wire_of(code, 0, text) for text in texts])
        self.assertEqual(sorted(found), list(range(1, 9)))

    def test_taken_apart_from_the_left(self):
        # The mark overlaps itself in these texts, which are not put together.
        self.assertEqual(apart(ONES, "101", "10101101"), ["01"])
        self.assertEqual(apart(ONES, "101", "101101"), [""])
        self.refused(ONES, "101", "10101")
        self.assertEqual(apart(ONES, "101", "101" "0" "101"), ["0"])
        self.assertEqual(apart(ONES, "010", "010" "10" "010"), ["10"])

    def test_whatever_stands_between_is_told(self):
        self.assertEqual(apart(BIPHASE, "0001", "0001" "11" "0001" "0" "0001"), ["11", "0"])
        self.assertEqual(apart(BIPHASE, "0001", "0001" "x y" "0001"), ["x y"])

    def test_all_short_texts(self):
        for code, mark in ((ONES, "0"), (ONES, "01"), (ONES, "101"), (ONES, "010"), (BIPHASE, "0001")):
            for length in range(12):
                for wire in signs_of(length):
                    told = slow_apart(mark, wire)
                    if told is None:
                        self.refused(code, mark, wire)
                    else:
                        self.assertEqual(apart(code, mark, wire), told)

    def test_no_wire(self):
        for wire in ("", "0", "000", "1", "x", "0001x", "x0001", "00010", "10001", "000100", "0001 ", " 0001", "0001\n", "00010001x", "01",
                     "0110", "0001" * 1249 + "000", "0" * 5000):
            self.refused(BIPHASE, "0001", wire)
        for thing in NO_TEXTS + [["0001"], ("0001",), b"0001"]:
            self.refused(BIPHASE, "0001", thing)

    def test_no_letters(self):
        for thing in ANYTHING:
            for frames in ([thing], [[0], thing], [thing, []]):
                with self.assertRaises(NoLetter, msg=repr(thing)):
                    framed(BIPHASE, "0001", frames)
        for letter in (2, -1, True, None, "0", 10 ** 29):
            with self.assertRaises(NoLetter):
                framed(BIPHASE, "0001", [[0], [1, letter]])
        for frames in (None, (), ([0],), "", "01", 0, {}, [0]):
            with self.assertRaises(NoLetter):
                framed(BIPHASE, "0001", frames)

    def test_no_mark_ahead_of_all_else(self):
        unclean = ["000", "111", "01", "", "x", "0001x", "000100010", "0" * 9]
        for mark in ANYTHING + [[], ["0001"], ("0001",), b"0001"] + unclean:
            for thing in ([[0]], [], [[7]], [None], None, "x", [True]):
                with self.assertRaises(NoMark, msg=repr(mark)):
                    framed(BIPHASE, mark, thing)
            for thing in ("", "0001", "000", "x", None, 7, [], ["0001"]):
                with self.assertRaises(NoMark, msg=repr(mark)):
                    apart(BIPHASE, mark, thing)

    def test_long_texts_and_wires(self):
        text = [0, 1] * 1000
        wire = framed(BIPHASE, "0001", [text])
        self.assertEqual(wire, "0001" + "0110" * 1000 + "0001")
        self.assertEqual(apart(BIPHASE, "0001", wire), ["0110" * 1000])
        self.assertEqual(framed(ONES, "0", [[]] * 2000), "0" * 2001)
        self.assertEqual(apart(ONES, "0", "0" * 2001), [""] * 2000)
        self.assertEqual(apart(ONES, "0", "0" + "1" * 4998 + "0"), ["1" * 4998])

    def refused(self, code, mark, wire):
        with self.assertRaises(NoWire, msg=repr(wire)) as caught:
            apart(code, mark, wire)
        self.assertEqual(caught.exception.at, 0)


class NothingKept(unittest.TestCase):
    def test_nothing_is_changed(self):
        for code in [BIPHASE, SIX, ONES] + wide_codes(119, 20):
            handed, texts = copy.deepcopy(code), [[0], [], [1, 0]]
            known = [mark for length in (2, 5) for mark in marks(handed, length)]
            for mark in known[:5]:
                if is_clean(handed, mark):
                    self.assertEqual(framed(handed, mark, texts), framed(handed, mark, texts))
            self.assertEqual((handed, texts), (code, [[0], [], [1, 0]]))

    def test_told_lists_are_the_askers_own(self):
        for length in (1, 3, 9):
            told = marks(BIPHASE, length)
            kept = list(told)
            told.append("000")
            self.assertEqual(marks(BIPHASE, length), kept)
        for wire in ("0001", "0001010001"):
            told = apart(BIPHASE, "0001", wire)
            kept = list(told)
            told.append("0")
            self.assertEqual(apart(BIPHASE, "0001", wire), kept)

    def test_a_code_that_is_changed_is_asked_anew(self):
        code = copy.deepcopy(BIPHASE)
        self.assertIs(is_mark(code, "111"), True)
        self.assertIs(is_clean(code, "0001"), True)
        code[2][0][1] = ("11", 0)
        self.assertIs(is_mark(code, "111"), False)
        code[2][0][1] = ("00", 0)
        self.assertIs(is_clean(code, "0001"), False)


if __name__ == "__main__":
    unittest.main()
