"""Points 9 and 10: how long a code stands still, its papers, its texts; and point 2 of them."""

import copy
import itertools
import random
import unittest

from ownbeat.codes import sent
from ownbeat.stillness import still, still_paper, still_shows, still_text
from samples import (BIPHASE, BLIND, EIGHT, FAR_BLIND, NAMED, ONE_LATE, SIX, THREE, TURNING, longest_run, rows,
                     small_codes, state_behind, states_come_to, wide_codes, wire_of)

BIPHASE_PAPER = [(0, "0", 1), (0, "1", 1)]
# Two states in turn, the words of the first end with two noughts and those of the other begin with three.
IN_TURN = (1, 4, [[("1100", 1), ("0100", 1)], [("0001", 0), ("0111", 0)]])
# One word of noughts alone on the way, which is never come back to by noughts alone.
THROUGH = (1, 3, [[("110", 1), ("100", 1)], [("000", 2), ("010", 0)], [("000", 0), ("001", 2)]])


def slow_still(code):
    """By all wires of as many words as the longest run touches that has an end: one more than states."""
    count, n = len(code[2]), code[1]
    most = max(longest_run(wire_of(code, state, row)) for state in states_come_to(code) for row in rows(code, count + 1))
    return most if most <= (count - 1) * n + 2 * (n - 1) else None


def end_run(wire):
    return len(wire) - len(wire.rstrip(wire[-1]))


def shows_still(code, number, paper):
    """The words of the document, with each word written behind as many signs as the paper tells."""
    keys = [(state, sign) for state in sorted(states_come_to(code)) for sign in "01"]
    if [row[:2] for row in paper] != keys or any(row[2] < 0 for row in paper):
        return False
    told = {row[:2]: row[2] for row in paper}
    for (state, sign), most in told.items():
        for word, behind in code[2][state]:
            wire = sign * most + word
            if longest_run(wire) > number or end_run(wire) > told[(behind, wire[-1])]:
                return False
    return True


class Still(unittest.TestCase):
    def test_by_hand(self):
        self.assertEqual(still(BIPHASE), 2)
        self.assertIsNone(still(TURNING))
        self.assertEqual(still(BLIND), 1)
        self.assertIsNone(still(THREE))
        self.assertIsNone(still(ONE_LATE))
        self.assertEqual(still(EIGHT), 2)
        self.assertEqual(still(IN_TURN), 5)
        self.assertEqual(still(THROUGH), 8)
        # Only all alike words side by side have no most.
        self.assertEqual(still((1, 1, [[("0", 1), ("0", 1)], [("1", 0), ("1", 0)]])), 1)
        self.assertIsNone(still((1, 1, [[("0", 1), ("0", 1)], [("0", 0), ("1", 0)]])))
        self.assertIsNone(still((1, 1, [[("0", 1), ("0", 1)], [("1", 0), ("1", 1)]])))

    def test_states_not_come_to(self):
        self.assertEqual(still(FAR_BLIND), 2)
        self.assertIsNone(still((1, 2, [[("01", 0), ("10", 1)], FAR_BLIND[2][1]])))

    def test_runs_within_a_word(self):
        self.assertEqual(still((1, 6, [[("100001", 0), ("101101", 0)]])), 4)

    def test_against_all_texts(self):
        told = {}
        for code in small_codes(30, 400):
            answer = still(code)
            self.assertEqual(answer, slow_still(code), code)
            told[answer] = True
        for number in (None, 1, 2, 3, 4, 5):
            self.assertIn(number, told)

    def test_wires_stand_no_longer(self):
        chance = random.Random(31)
        for code in wide_codes(32, 150):
            number = still(code)
            if number is not None:
                text = [chance.randrange(2 ** code[0]) for _ in range(300)]
                self.assertLessEqual(longest_run(sent(code, 0, text)[0]), number)

    def test_the_longest(self):
        # Eight states in a row by words of six noughts, and a word of them at either side.
        states = [[("000000", state + 1), ("100000", 0)] for state in range(7)] + [[("000001", 0), ("100000", 0)]]
        self.assertEqual(still((1, 6, states)), 5 + 7 * 6 + 5)


class Paper(unittest.TestCase):
    def test_a_paper_for_each_most(self):
        found = 0
        for code in NAMED + [IN_TURN, THROUGH] + small_codes(33, 200) + wide_codes(34, 200):
            number, paper = still(code), still_paper(code)
            self.assertEqual(paper is None, number is None)
            if paper is None:
                continue
            found += 1
            self.assertIsInstance(paper, list)
            for row in paper:
                self.assertEqual([type(part) for part in row], [int, str, int])
            self.assertEqual(paper, sorted(paper))
            self.assertTrue(shows_still(code, number, paper), (code, paper))
            self.assertIs(still_shows(code, number, paper), True)
            self.assertIs(still_shows(code, number + 1, paper), True)
            self.assertIs(still_shows(code, number - 1, paper), False)
        self.assertGreater(found, 100)

    def test_by_hand(self):
        self.assertIs(still_shows(BIPHASE, 2, BIPHASE_PAPER), True)
        self.assertIs(still_shows(BIPHASE, 1, BIPHASE_PAPER), False)
        self.assertIs(still_shows(BIPHASE, 2, [(0, "0", 0), (0, "1", 1)]), False)
        self.assertIs(still_shows(BIPHASE, 2, [(0, "0", 1), (0, "1", 0)]), False)
        # More than is needed may be told, if the number allows it.
        self.assertIs(still_shows(BIPHASE, 2, [(0, "0", 1), (0, "1", 2)]), False)
        self.assertIs(still_shows(BIPHASE, 3, [(0, "0", 1), (0, "1", 2)]), True)
        self.assertIs(still_shows(TURNING, 10 ** 29, [(0, "0", 5), (0, "1", 5), (1, "0", 5), (1, "1", 5)]), False)
        self.assertIs(still_shows(FAR_BLIND, 2, BIPHASE_PAPER), True)
        # What the paper tells itself stands side by side, also where each word begins with the other sign.
        self.assertIs(still_shows((1, 2, [[("01", 0), ("01", 0)]]), 2, [(0, "0", 0), (0, "1", 3)]), False)
        self.assertIs(still_shows((1, 2, [[("01", 0), ("01", 0)]]), 3, [(0, "0", 0), (0, "1", 3)]), True)

    def test_rows_left_out_or_twice_or_not_rising(self):
        for code in (BIPHASE, IN_TURN, SIX, EIGHT, THROUGH):
            number, paper = still(code), still_paper(code)
            for place, row in enumerate(paper):
                self.assertIs(still_shows(code, number, paper[:place] + paper[place + 1:]), False)
                self.assertIs(still_shows(code, number, paper[:place] + [row] + paper[place:]), False)
                self.assertIs(still_shows(code, number, paper[:place] + [(row[0], row[1], row[2] + 1)] + paper[place:]), False)
                for other in range(place):
                    turned = list(paper)
                    turned[place], turned[other] = turned[other], turned[place]
                    self.assertIs(still_shows(code, number, turned), False)
            self.assertIs(still_shows(code, number, []), False)
            self.assertIs(still_shows(code, number, paper + [(8, "0", 0)]), False)
            self.assertIs(still_shows(code, number, [(-1, "0", 0)] + paper), False)
            self.assertIs(still_shows(code, number, list(reversed(paper))), False)

    def test_states_not_come_to_have_no_rows(self):
        self.assertEqual([row[0] for row in still_paper(FAR_BLIND)], [0, 0])
        self.assertIs(still_shows(FAR_BLIND, 9, BIPHASE_PAPER + [(1, "0", 0), (1, "1", 0)]), False)

    def test_other_signs_and_states(self):
        for rows_told in ([(0, "", 1), (0, "1", 1)], [(0, "0", 1), (0, "x", 1)], [(0, "0", 1), (0, "01", 1)],
                          [(0, "0", 1), (1, "1", 1)], [(-1, "0", 1), (0, "1", 1)], [(0, "0", 1), (10 ** 29, "1", 1)],
                          [(0, "0", 1), (0, "0", 2)], [(0, "0", 1), (0, "1 ", 1)]):
            self.assertIs(still_shows(BIPHASE, 2, rows_told), False, rows_told)

    def test_other_shapes_show_nothing(self):
        for paper in (None, (), tuple(BIPHASE_PAPER), [None, None], [list(row) for row in BIPHASE_PAPER], [(0, "0"), (0, "1")],
                      [row + (0,) for row in BIPHASE_PAPER], [(False, "0", 1), (0, "1", 1)], [(0, "0", True), (0, "1", 1)],
                      [(0, "0", None), (0, "1", 1)], [(0, 0, 1), (0, 1, 1)]):
            self.assertIs(still_shows(BIPHASE, 2, paper), False, paper)
        self.assertIs(still_shows((1, 1, [[("0", 1), ("0", 1)], [("1", 0), ("1", 0)]]), True,
                                  [(0, "0", 0), (0, "1", 1), (1, "0", 1), (1, "1", 0)]), False)

    def test_numbers_far_off_or_below_0(self):
        far = 10 ** 29
        self.assertIs(still_shows(BIPHASE, far, BIPHASE_PAPER), True)
        self.assertIs(still_shows(BIPHASE, -far, BIPHASE_PAPER), False)
        self.assertIs(still_shows(BIPHASE, 0, BIPHASE_PAPER), False)
        self.assertIs(still_shows(BIPHASE, far, [(0, "0", far), (0, "1", far)]), False)
        self.assertIs(still_shows(BIPHASE, far + 1, [(0, "0", far), (0, "1", far)]), True)
        self.assertIs(still_shows(BIPHASE, 2, [(0, "0", far), (0, "1", 1)]), False)
        self.assertIs(still_shows(BIPHASE, 2, [(0, "0", -1), (0, "1", 1)]), False)
        self.assertIs(still_shows(BIPHASE, far, [(0, "0", 1), (0, "1", -far)]), False)
        # No word ends with a nought, so a row below 0 would do no harm: it is no paper all the same.
        self.assertIs(still_shows((1, 1, [[("1", 1), ("1", 1)], [("0", 0), ("0", 0)]]), 1,
                                  [(0, "0", 1), (0, "1", -1), (1, "0", 0), (1, "1", 1)]), False)

    def test_long_papers(self):
        self.assertIs(still_shows(BIPHASE, 2, BIPHASE_PAPER * 1000), False)
        self.assertIs(still_shows(BIPHASE, 2, [(state, sign, 1) for state in range(1000) for sign in "01"]), False)

    def test_against_the_words(self):
        chance = random.Random(35)
        shown = 0
        for code in small_codes(36, 300) + [BIPHASE, IN_TURN, SIX]:
            keys = [(state, sign) for state in sorted(states_come_to(code)) for sign in "01"]
            base = still_paper(code) or [key + (chance.randint(0, 6),) for key in keys]
            for _ in range(12):
                paper = [(row[0], row[1], row[2] + chance.choice((-1, 0, 0, 0, 0, 1))) for row in base]
                number = chance.randint(0, 12)
                truth = shows_still(code, number, paper)
                self.assertIs(still_shows(code, number, paper), truth, (code, number, paper))
                if truth:
                    shown += 1
                    self.assertIsNotNone(still(code))
                    self.assertLessEqual(still(code), number)
        self.assertGreater(shown, 100)

    def test_no_paper_shows_less(self):
        for code in small_codes(37, 60):
            keys = [(state, sign) for state in sorted(states_come_to(code)) for sign in "01"]
            if len(keys) > 4:
                continue
            number = 6 if still(code) is None else still(code) - 1
            for mosts in itertools.product(range(5), repeat=len(keys)):
                self.assertIs(still_shows(code, number, [key + (most,) for key, most in zip(keys, mosts)]), False)


class Text(unittest.TestCase):
    def test_stands_so_long(self):
        found = {True: 0, False: 0}
        for code in NAMED + [IN_TURN, THROUGH] + small_codes(38, 300) + wide_codes(39, 300):
            answer, number = still_text(code), still(code)
            found[number is None] += 1
            if number is None:
                self.assertIsInstance(answer, tuple)
                self.assertEqual([type(part) for part in answer], [list, list])
                self.holds_loop(code, answer[0], answer[1])
            else:
                self.assertIsInstance(answer, list)
                self.assertEqual(longest_run(sent(code, 0, answer)[0]), number, (code, answer))
        self.assertGreater(found[True], 50)
        self.assertGreater(found[False], 50)

    def holds_loop(self, code, text, loop):
        state = state_behind(code, 0, text)
        wire, behind = sent(code, state, loop)
        self.assertEqual(behind, state)
        self.assertEqual(len(set(wire)), 1, (code, text, loop))
        times = sent(code, 0, text + loop * 5)[0]
        self.assertEqual(longest_run(times[len(text) * code[1]:]), len(loop) * code[1] * 5)

    def test_by_hand(self):
        self.assertEqual(longest_run(wire_of(IN_TURN, 0, still_text(IN_TURN))), 5)
        self.assertEqual(still_text(BLIND), [0])
        # The loop lies away from state 0, and is of two letters.
        code = (1, 2, [[("01", 1), ("10", 1)], [("11", 2), ("10", 0)], [("01", 0), ("11", 1)]])
        text, loop = still_text(code)
        self.holds_loop(code, text, loop)
        self.assertEqual(len(loop) % 2, 0)


class NothingKept(unittest.TestCase):
    def test_nothing_is_changed(self):
        for code in NAMED + [IN_TURN] + wide_codes(40, 40):
            handed = copy.deepcopy(code)
            still(handed), still_text(handed)
            paper = still_paper(handed)
            if paper is not None:
                held = list(paper)
                still_shows(handed, 5, held)
                self.assertEqual(held, paper)
            self.assertEqual(handed, code)

    def test_told_lists_are_the_askers_own(self):
        paper = still_paper(BIPHASE)
        paper.clear()
        self.assertEqual(still_paper(BIPHASE), BIPHASE_PAPER)
        for code in NAMED + [IN_TURN]:
            first = still_text(code)
            kept = copy.deepcopy(first)
            for told in first if isinstance(first, tuple) else (first,):
                told.append(0)
            self.assertEqual(still_text(code), kept)

    def test_a_code_that_is_changed_is_asked_anew(self):
        code = copy.deepcopy(BIPHASE)
        self.assertEqual(still(code), 2)
        code[2][0][1] = ("11", 0)
        self.assertIsNone(still(code))


if __name__ == "__main__":
    unittest.main()
