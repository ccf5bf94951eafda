"""Points 15 and 16: windows that tell, the least one, wires read by a window; and point 2 of them."""

import copy
import random
import unittest

from ownbeat.codes import sent
from ownbeat.errors import NoWindow, NoWire
from ownbeat.windows import least_window, read_by, tells
from samples import (ANYWHERE, BALANCED, BIPHASE, BLIND, DELAY, EIGHT, FAR_BLIND, NAMED, NO_TEXTS, ONE_LATE, SEVEN_BACK,
                     SHIFT, SIX, SIX_AHEAD, SIX_AROUND, SIX_BACK, THREE, TURNING, rows, small_codes, wide_codes, wire_of)

WINDOWS = [(back, both - back) for both in range(7) for back in range(both + 1)]
# The states 0 and 1 are read at once; from 2, which can't be come to, the same word is another letter.
FAR_TURNED = (1, 2, [[("01", 1), ("10", 0)], [("01", 0), ("10", 1)], [("10", 0), ("11", 2)]])


def letters_by_wire(code, back, ahead):
    """Of each wire of a window, from any state, the letters at its place."""
    found = {}
    for state in range(len(code[2])):
        for row in rows(code, back + 1 + ahead):
            found.setdefault(wire_of(code, state, row), set()).add(row[back])
    return found


def slow_tells(code, back, ahead):
    return all(len(letters) == 1 for letters in letters_by_wire(code, back, ahead).values())


def slow_read_by(code, back, ahead, wire):
    found = letters_by_wire(code, back, ahead)
    width = (back + 1 + ahead) * code[1]
    told = []
    for place in range(0, len(wire) - width + 1, code[1]):
        letters = found.get(wire[place:place + width], {None})
        told += letters
    return told


class Tells(unittest.TestCase):
    def test_by_hand(self):
        self.assertIs(tells(BIPHASE, 0, 0), True)
        self.assertIs(tells(TURNING, 0, 0), False)
        self.assertIs(tells(TURNING, 1, 0), True)
        self.assertIs(tells(TURNING, 0, 1), False)
        self.assertIs(tells(TURNING, 0, 6), False)
        self.assertIs(tells(ONE_LATE, 0, 1), True)
        self.assertIs(tells(ONE_LATE, 1, 0), False)
        self.assertIs(tells(DELAY, 0, 2), False)
        self.assertIs(tells(DELAY, 0, 3), True)
        self.assertIs(tells(DELAY, 6, 0), False)
        self.assertIs(tells(DELAY, 3, 3), True)
        for back, ahead in WINDOWS:
            self.assertIs(tells(BLIND, back, ahead), False)
            self.assertIs(tells(SHIFT, back, ahead), True)

    def test_states_not_come_to(self):
        # Nothing tells what is sent from state 1, but from state 0 on it is not come to.
        for back, ahead in WINDOWS:
            self.assertIs(tells(FAR_BLIND, back, ahead), False)
        self.assertIs(tells(FAR_TURNED, 0, 0), False)

    def test_six_words_beside_the_one(self):
        for back, ahead in WINDOWS:
            self.assertIs(tells(SIX_BACK, back, ahead), (back, ahead) == (6, 0))
            self.assertIs(tells(SEVEN_BACK, back, ahead), False)
        self.assertIs(tells(SIX_AHEAD, 0, 6), True)
        self.assertIs(tells(SIX_AROUND, 3, 3), True)

    def test_somewhat_beyond(self):
        self.assertIs(tells(SEVEN_BACK, 7, 0), True)
        self.assertIs(tells(SEVEN_BACK, 6, 1), slow_tells(SEVEN_BACK, 6, 1))
        self.assertIs(tells(BLIND, 5, 4), False)
        self.assertIs(tells(BIPHASE, 4, 4), True)
        self.assertIs(tells(BIPHASE, -1, 2), False)
        self.assertIs(tells(BIPHASE, 2, -1), False)

    def test_against_all_rows(self):
        told = {True: 0, False: 0}
        for code in NAMED + ANYWHERE + [FAR_TURNED] + small_codes(90, 120):
            widest = 5 if code[0] == 1 else 2 if code[0] == 2 else 1
            for back, ahead in WINDOWS:
                if back + ahead <= widest:
                    truth = slow_tells(code, back, ahead)
                    self.assertIs(tells(code, back, ahead), truth, (code, back, ahead))
                    told[truth] += 1
        self.assertGreater(told[True], 200)
        self.assertGreater(told[False], 200)

    def test_wider_windows_against_all_rows(self):
        for code in ANYWHERE:
            for back, ahead in WINDOWS:
                if back + ahead == 6:
                    self.assertIs(tells(code, back, ahead), slow_tells(code, back, ahead), (code, back, ahead))

    def test_wider_windows_tell_too(self):
        for code in wide_codes(91, 80):
            for back, ahead in WINDOWS:
                if back + ahead < 6 and tells(code, back, ahead):
                    self.assertIs(tells(code, back + 1, ahead), True)
                    self.assertIs(tells(code, back, ahead + 1), True)


class Least(unittest.TestCase):
    def test_by_hand(self):
        for code, window in ((BIPHASE, (0, 0)), (TURNING, (1, 0)), (ONE_LATE, (0, 1)), (DELAY, (0, 3)), (SHIFT, (0, 0)), (EIGHT, (0, 0)),
                             (THREE, (0, 0)), (BALANCED, (0, 0)), (BLIND, None), (FAR_BLIND, None), (FAR_TURNED, (1, 0)), (SIX_BACK, (6, 0)),
                             (SIX_AHEAD, (0, 6)), (SIX_AROUND, (3, 3)), (SEVEN_BACK, None)):
            self.assertEqual(least_window(code), window, code)

    def test_of_the_least_back(self):
        # The words of the states 0 and 1 are the same, turned; both the word ahead and the word back tell which it is.
        code = (1, 3, [[("000", 2), ("001", 2)], [("001", 3), ("000", 3)], [("100", 0), ("101", 0)], [("110", 1), ("111", 1)]])
        self.assertEqual([tells(code, 0, 0), tells(code, 0, 1), tells(code, 1, 0)], [False, True, True])
        self.assertEqual(least_window(code), (0, 1))

    def test_against_all_windows(self):
        found = {}
        for code in small_codes(93, 120) + ANYWHERE + [FAR_TURNED]:
            if code[0] > 1:
                continue
            telling = [window for window in WINDOWS if slow_tells(code, *window)]
            answer = least_window(code)
            self.assertEqual(answer, telling[0] if telling else None, code)
            found[answer] = True
        for window in (None, (0, 0), (0, 1), (1, 0), (1, 1), (6, 0), (0, 6), (3, 3)):
            self.assertIn(window, found)

    def test_wide_codes(self):
        for code in wide_codes(94, 60):
            telling = [window for window in WINDOWS if tells(code, *window)]
            answer = least_window(code)
            self.assertEqual(answer, telling[0] if telling else None, code)
            if answer is not None:
                self.assertIsInstance(answer, tuple)
                self.assertEqual([type(one) for one in answer], [int, int])


class ReadBy(unittest.TestCase):
    def test_by_hand(self):
        self.assertEqual(read_by(BIPHASE, 0, 0, "011001"), [0, 1, 0])
        self.assertEqual(read_by(BIPHASE, 1, 1, "011001"), [1])
        self.assertEqual(read_by(BIPHASE, 0, 0, "010010"), [0, None, 1])
        self.assertEqual(read_by(BIPHASE, 0, 1, "010010"), [None, None])
        self.assertEqual(read_by(TURNING, 1, 0, "0110"), [1, 0, 1])
        self.assertEqual(read_by(ONE_LATE, 0, 1, "01011"), [1, 0, 1, 1])
        self.assertEqual(read_by(DELAY, 0, 3, "1010110"), [0, 1, 1, 0])

    def test_wires_shorter_than_the_window(self):
        for back, ahead in WINDOWS:
            for count in range(9):
                told = read_by(BIPHASE, back, ahead, "01" * count)
                self.assertEqual(told, [0] * max(0, count - back - ahead))
        self.assertEqual(read_by(DELAY, 0, 3, ""), [])

    def test_six_words_beside_the_one(self):
        chance = random.Random(95)
        for code, back, ahead in ((SIX_BACK, 6, 0), (SIX_AHEAD, 0, 6), (SIX_AROUND, 3, 3), (SEVEN_BACK, 7, 0)):
            for state in range(len(code[2])):
                text = [chance.randrange(2) for _ in range(40)]
                self.assertEqual(read_by(code, back, ahead, sent(code, state, text)[0]), text[back:40 - ahead])

    def test_sent_is_read_from_any_state(self):
        chance = random.Random(96)
        found = 0
        for code in NAMED + ANYWHERE + small_codes(97, 60) + wide_codes(98, 120):
            window = least_window(code)
            if window is None:
                continue
            found += 1
            back, ahead = window
            for state in range(len(code[2])):
                text = [chance.randrange(2 ** code[0]) for _ in range(20)]
                self.assertEqual(read_by(code, back, ahead, sent(code, state, text)[0]), text[back:20 - ahead], code)
        self.assertGreater(found, 50)

    def test_against_all_rows(self):
        chance = random.Random(99)
        nones = 0
        for code in small_codes(100, 250) + [TURNING, ONE_LATE, DELAY]:
            window = least_window(code)
            if window is None or code[0] * sum(window) > 6:
                continue
            back, ahead = window
            for length in range(back + ahead + 4):
                wire = "".join(chance.choice("01") for _ in range(length * code[1]))
                answer = read_by(code, back, ahead, wire)
                self.assertEqual(answer, slow_read_by(code, back, ahead, wire), (code, wire))
                nones += answer.count(None)
            if code[0] == 1 and sum(window) < 3:
                for wider in ((back + 1, ahead), (back, ahead + 2)):
                    wire = "".join(chance.choice("01") for _ in range(8 * code[1]))
                    self.assertEqual(read_by(code, *wider, wire), slow_read_by(code, *wider, wire), (code, wire))
        self.assertGreater(nones, 100)

    def test_a_wrong_sign_is_forgotten_outside(self):
        chance = random.Random(101)
        for code in ANYWHERE[:-1] + wide_codes(102, 100):
            window = least_window(code)
            if window is None:
                continue
            back, ahead = window
            wire = sent(code, 0, [chance.randrange(2 ** code[0]) for _ in range(25)])[0]
            right = read_by(code, back, ahead, wire)
            for _ in range(6):
                at = chance.randrange(len(wire))
                wrong = read_by(code, back, ahead, wire[:at] + "10"[int(wire[at])] + wire[at + 1:])
                self.assertEqual(len(right), len(wrong))
                for place, letters in enumerate(zip(right, wrong)):
                    if not place <= at // code[1] <= place + back + ahead:
                        self.assertEqual(letters[0], letters[1])

    def test_no_window(self):
        for code, back, ahead in ((TURNING, 0, 0), (TURNING, 0, 6), (ONE_LATE, 1, 0), (BLIND, 3, 3), (FAR_BLIND, 0, 0), (SIX_BACK, 5, 1),
                                  (SEVEN_BACK, 6, 0)):
            for wire in ["", "0", "01", "0101", "x", "0" * 50] + NO_TEXTS:
                with self.assertRaises(NoWindow):
                    read_by(code, back, ahead, wire)

    def test_refused_at(self):
        for code, wire, at in ((BIPHASE, "0", 0), (BIPHASE, "011", 1), (BIPHASE, "0x", 0), (BIPHASE, "010x", 1), (BIPHASE, "x1010", 0),
                               (BIPHASE, "0101 ", 2), (BIPHASE, "01 01", 1), (BIPHASE, "0\n", 0), (SIX, "010101" * 3 + "0", 3),
                               (BIPHASE, "01" * 2000 + "1", 2000), (BIPHASE, "00" + "0", 1), (BIPHASE, "1111" + "0x", 2)):
            for back, ahead in ((0, 0), (2, 1), (0, 6)):
                if tells(code, back, ahead):
                    self.refused(code, back, ahead, wire, at)
        self.refused(TURNING, 1, 0, "0012", 3)
        self.refused(TURNING, 1, 0, "2", 0)

    def test_no_text(self):
        for thing in NO_TEXTS:
            self.refused(BIPHASE, 0, 0, thing, 0)
            self.refused(DELAY, 0, 3, thing, 0)

    def test_long_wires(self):
        self.assertEqual(read_by(SHIFT, 3, 3, "01" * 2500), [1, 0] * 2497)
        self.assertEqual(read_by(DELAY, 0, 3, "01" * 2500), [1, 0] * 2498 + [1])
        self.assertEqual(read_by(BIPHASE, 6, 0, "01" * 2500), [0] * 2494)
        self.assertEqual(read_by(BIPHASE, 0, 0, "01" * 2499 + "11"), [0] * 2499 + [None])
        self.refused(SHIFT, 3, 3, "01" * 2499 + "0x", 4999)

    def refused(self, code, back, ahead, wire, at):
        with self.assertRaises(NoWire, msg=repr((code, wire))) as caught:
            read_by(code, back, ahead, wire)
        self.assertEqual(caught.exception.at, at, (code, wire))


class NothingKept(unittest.TestCase):
    def test_nothing_is_changed(self):
        for code in NAMED + ANYWHERE + wide_codes(103, 20):
            handed = copy.deepcopy(code)
            tells(handed, 1, 1)
            window = least_window(handed)
            self.assertEqual(least_window(handed), window)
            if window is not None:
                read_by(handed, *window, sent(handed, 0, [0, 1] * 5)[0])
            self.assertEqual(handed, code)

    def test_told_lists_are_the_askers_own(self):
        for wire in ("", "0110"):
            told = read_by(BIPHASE, 0, 0, wire)
            kept = list(told)
            told.append(7)
            self.assertEqual(read_by(BIPHASE, 0, 0, wire), kept)

    def test_a_code_that_is_changed_is_asked_anew(self):
        code = copy.deepcopy(BIPHASE)
        self.assertIs(tells(code, 0, 0), True)
        code[2][0][1] = ("01", 0)
        self.assertIs(tells(code, 0, 0), False)
        self.assertIsNone(least_window(code))


if __name__ == "__main__":
    unittest.main()
