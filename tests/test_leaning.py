"""Points 11 and 12: how far a code leans, its papers, its texts; and point 2 of them."""

import copy
import itertools
import random
import unittest

from ownbeat.codes import is_code, sent
from ownbeat.leaning import lean, lean_paper, lean_shows, lean_texts
from samples import (ANYTHING, ANYWHERE, BALANCED, BIPHASE, BLIND, EIGHT, FAR_BLIND, NAMED, ONE_LATE, SIX, THREE, TURNING,
                     level_codes, rows, small_codes, state_behind, states_come_to, wide_codes, wire_of)

FAR = 10 ** 29
# States that can't be come to: one leans for ever, and the other is between the ones that can.
SKIPPED = (1, 2, [[("11", 2), ("01", 0)], [("11", 1), ("11", 0)], [("00", 0), ("10", 2)]])
SKIPPED_PAPER = [(0, 0, 0), (2, 2, 2)]
UP_ALONE = (1, 1, [[("1", 0), ("1", 0)]])
DOWN_ALONE = (1, 3, [[("000", 0), ("001", 0)]])


def leans_of(wire):
    """Behind all beginnings, that of no signs, too."""
    return [2 * wire[:count].count("1") - count for count in range(len(wire) + 1)]


def lean_at_end(wire):
    return leans_of(wire)[-1]


def slow_lean(code):
    """No letters that lead back may lean; then as many letters as states lead to the farthest leans."""
    states = states_come_to(code)
    for state in states:
        for length in range(1, len(states) + 1):
            for row in rows(code, length):
                if state_behind(code, state, row) == state and lean_at_end(wire_of(code, state, row)) != 0:
                    return None
    leans = [one for row in rows(code, len(states)) for one in leans_of(wire_of(code, 0, row))]
    return (min(leans), max(leans))


def shows_lean(code, both, paper):
    """The words of the document, walking each lean from low to high."""
    least, greatest = both
    if [row[0] for row in paper] != sorted(states_come_to(code)):
        return False
    told = {state: range(low, high + 1) for state, low, high in paper}
    if not least <= 0 <= greatest or 0 not in told[0] or any(low > high for _, low, high in paper):
        return False
    for state, leans in told.items():
        for word, behind in code[2][state]:
            for begun in leans:
                way = [begun + one for one in leans_of(word)[1:]]
                if not all(least <= one <= greatest for one in way) or way[-1] not in told[behind]:
                    return False
    return True


class Lean(unittest.TestCase):
    def test_samples_are_codes(self):
        for code in ANYWHERE + [SKIPPED, UP_ALONE, DOWN_ALONE] + level_codes(50, 50):
            self.assertIs(is_code(code), True)

    def test_by_hand(self):
        self.assertEqual(lean(BIPHASE), (-1, 1))
        self.assertEqual(lean(BALANCED), (0, 2))
        self.assertEqual(lean(EIGHT), (-1, 1))
        self.assertEqual(lean(SIX), (-2, 2))
        for code in (TURNING, THREE, ONE_LATE, UP_ALONE, DOWN_ALONE):
            self.assertIsNone(lean(code), code)

    def test_the_lean_of_no_signs_counts(self):
        self.assertEqual(lean(BLIND), (-1, 0))
        self.assertEqual(lean((1, 2, [[("10", 0), ("10", 0)]])), (0, 1))
        self.assertEqual(lean((1, 1, [[("1", 1), ("1", 1)], [("0", 0), ("0", 0)]])), (0, 1))
        # All leans behind some signs are above 0, but for those that come back.
        self.assertEqual(lean((1, 2, [[("11", 1), ("11", 1)], [("10", 1), ("01", 1)]])), (0, 3))
        self.assertEqual(lean((1, 2, [[("00", 1), ("00", 1)], [("10", 1), ("01", 1)]])), (-3, 0))

    def test_bounded_to_one_side_alone(self):
        self.assertIsNone(lean((1, 2, [[("11", 0), ("10", 0)]])))
        self.assertIsNone(lean((1, 2, [[("00", 0), ("10", 0)]])))

    def test_within_a_word(self):
        self.assertEqual(lean((1, 6, [[("000111", 0), ("101010", 0)]])), (-3, 1))
        self.assertEqual(lean((1, 6, [[("111000", 0), ("101010", 0)]])), (0, 3))

    def test_states_not_come_to(self):
        self.assertEqual(lean(FAR_BLIND), (-1, 1))
        self.assertEqual(lean(SKIPPED), (-1, 3))
        self.assertIsNone(lean((1, 2, [[("01", 0), ("10", 1)], FAR_BLIND[2][1]])))

    def test_against_all_texts(self):
        told = {}
        for code in small_codes(51, 300) + [code for code in level_codes(52, 300) if len(code[2]) ** 2 * code[0] < 20]:
            answer = lean(code)
            self.assertEqual(answer, slow_lean(code), code)
            told[answer] = True
        for both in (None, (0, 1), (-1, 0), (-1, 1), (-2, 0), (0, 2)):
            self.assertIn(both, told)

    def test_the_farthest(self):
        # Seven states up by words of six ones, and back from each.
        states = [[("1" * 6, state + 1), ("1" * 6, state + 1)] for state in range(7)] + [[("101010", 7), ("010101", 7)]]
        self.assertEqual(lean((1, 6, states)), (0, 43))
        states = [[("0" * 6, state + 1), ("0" * 6, state + 1)] for state in range(7)] + [[("101010", 7), ("010101", 7)]]
        self.assertEqual(lean((1, 6, states)), (-43, 0))
        # A loop of all eight states that leans by one sign pair alone.
        states = [[("10", (state + 1) % 8)] * 2 for state in range(7)] + [[("10", 0), ("11", 0)]]
        self.assertIsNone(lean((1, 2, states)))

    def test_wires_lean_no_farther(self):
        chance = random.Random(53)
        for code in wide_codes(54, 100) + level_codes(55, 200):
            both = lean(code)
            if both is not None:
                leans = leans_of(sent(code, 0, [chance.randrange(2 ** code[0]) for _ in range(300)])[0])
                self.assertLessEqual(both[0], min(leans))
                self.assertLessEqual(max(leans), both[1])

    def test_kinds(self):
        for code in NAMED + level_codes(56, 20):
            both = lean(code)
            if both is not None:
                self.assertIsInstance(both, tuple)
                self.assertEqual([type(one) for one in both], [int, int])


class Paper(unittest.TestCase):
    def test_a_paper_for_each_bound(self):
        found = 0
        for code in NAMED + ANYWHERE + [SKIPPED] + small_codes(57, 150) + wide_codes(58, 150) + level_codes(59, 250):
            both, paper = lean(code), lean_paper(code)
            self.assertEqual(paper is None, both is None)
            if paper is None:
                continue
            found += 1
            self.assertIsInstance(paper, list)
            for row in paper:
                self.assertIsInstance(row, tuple)
                self.assertEqual([type(part) for part in row], [int, int, int])
            self.assertTrue(shows_lean(code, both, paper), (code, paper))
            self.assertIs(lean_shows(code, both, paper), True)
            self.assertIs(lean_shows(code, (both[0] - 1, both[1] + 1), paper), True)
            self.assertIs(lean_shows(code, (both[0] + 1, both[1]), paper), False)
            self.assertIs(lean_shows(code, (both[0], both[1] - 1), paper), False)
        self.assertGreater(found, 250)

    def test_by_hand(self):
        self.assertIs(lean_shows(BIPHASE, (-1, 1), [(0, 0, 0)]), True)
        self.assertIs(lean_shows(BIPHASE, (-1, 0), [(0, 0, 0)]), False)
        self.assertIs(lean_shows(BIPHASE, (0, 1), [(0, 0, 0)]), False)
        # More than is needed may be told, if the numbers allow it.
        self.assertIs(lean_shows(BIPHASE, (-1, 1), [(0, -1, 0)]), False)
        self.assertIs(lean_shows(BIPHASE, (-2, 1), [(0, -1, 0)]), True)
        self.assertIs(lean_shows(BIPHASE, (-1, 2), [(0, 0, 1)]), True)
        self.assertIs(lean_shows(BIPHASE, (-1, 1), [(0, 0, 1)]), False)
        self.assertIs(lean_shows(BALANCED, (0, 2), [(0, 0, 0), (1, 2, 2)]), True)
        self.assertIs(lean_shows(BALANCED, (0, 2), [(0, 0, 0), (1, 1, 1)]), False)
        self.assertIs(lean_shows(TURNING, (-FAR, FAR), [(0, -5, 5), (1, -5, 5)]), False)

    def test_0_lies_within(self):
        # State 0's bounds are kept to by each word, but what is begun with lies not in them.
        self.assertIs(lean_shows(BIPHASE, (-9, 9), [(0, 1, 1)]), False)
        self.assertIs(lean_shows(BIPHASE, (-9, 9), [(0, -1, -1)]), False)
        # The told leans keep to the two numbers, but 0 does not.
        rising = (1, 1, [[("1", 1), ("1", 1)], [("0", 2), ("0", 2)], [("1", 1), ("1", 1)]])
        self.assertEqual(lean(rising), (0, 1))
        self.assertIs(lean_shows(rising, (0, 1), [(0, 0, 0), (1, 1, 1), (2, 0, 0)]), True)
        self.assertIs(lean_shows((1, 2, [[("11", 1), ("11", 1)], [("10", 1), ("10", 1)]]), (1, 3), [(0, 0, 0), (1, 2, 2)]), False)
        self.assertIs(lean_shows((1, 2, [[("00", 1), ("00", 1)], [("10", 1), ("10", 1)]]), (-2, -1), [(0, 0, 0), (1, -2, -2)]), False)

    def test_each_row_bounds_what_comes_to_it(self):
        self.assertIs(lean_shows(BALANCED, (-9, 9), [(0, 0, 1), (1, 2, 2)]), False)
        self.assertIs(lean_shows(BALANCED, (-9, 9), [(0, 0, 1), (1, 2, 3)]), True)
        self.assertIs(lean_shows(BALANCED, (-9, 9), [(0, -1, 0), (1, 2, 2)]), False)
        self.assertIs(lean_shows(BALANCED, (-9, 9), [(0, -1, 0), (1, 1, 2)]), True)
        self.assertIs(lean_shows(BALANCED, (-9, 9), [(0, 0, 0), (1, 2, 3)]), False)
        self.assertIs(lean_shows(BALANCED, (-9, 9), [(0, 0, 0), (1, 1, 2)]), False)

    def test_low_above_high(self):
        self.assertIs(lean_shows(BIPHASE, (-9, 9), [(0, 1, 0)]), False)
        self.assertIs(lean_shows(BIPHASE, (-9, 9), [(0, 0, -1)]), False)
        self.assertIs(lean_shows(BALANCED, (-9, 9), [(0, 0, 0), (1, 3, 1)]), False)
        # A way on which nothing would be left to be walked.
        chain = (1, 1, [[("1", 1), ("1", 1)], [("0", 0), ("0", 0)]])
        self.assertIs(lean_shows(chain, (-9, 9), [(0, 0, 0), (1, 1, 1)]), True)
        self.assertIs(lean_shows(chain, (-9, 9), [(0, 0, 0), (1, 2, 0)]), False)
        self.assertIs(lean_shows(chain, (-9, 9), [(0, 1, -1), (1, 2, 0)]), False)

    def test_rows_left_out_or_twice_or_not_rising(self):
        for code in (BIPHASE, BALANCED, SIX, EIGHT, SKIPPED):
            paper = lean_paper(code)
            for both in (lean(code), (-99, 99)):
                for place, row in enumerate(paper):
                    self.assertIs(lean_shows(code, both, paper[:place] + paper[place + 1:]), False)
                    self.assertIs(lean_shows(code, both, paper[:place] + [row] + paper[place:]), False)
                    self.assertIs(lean_shows(code, both, paper[:place] + [(row[0], row[1], row[2] + 1)] + paper[place:]), False)
                    for other in range(place):
                        turned = list(paper)
                        turned[place], turned[other] = turned[other], turned[place]
                        self.assertIs(lean_shows(code, both, turned), False)
                self.assertIs(lean_shows(code, both, []), False)
                self.assertIs(lean_shows(code, both, paper + [(8, 0, 0)]), False)
                self.assertIs(lean_shows(code, both, paper + [(FAR, 0, 0)]), False)
                self.assertIs(lean_shows(code, both, [(-1, 0, 0)] + paper), False)
                self.assertIs(lean_shows(code, both, [(-1, paper[0][1], paper[0][2])] + paper[1:]), False)

    def test_states_not_come_to_have_no_rows(self):
        self.assertEqual(lean_paper(FAR_BLIND), [(0, 0, 0)])
        self.assertIs(lean_shows(FAR_BLIND, (-9, 9), [(0, 0, 0), (1, 0, 0)]), False)
        self.assertEqual(lean_paper(SKIPPED), SKIPPED_PAPER)
        self.assertIs(lean_shows(SKIPPED, (-1, 3), [(0, 0, 0), (1, 0, 0), (2, 2, 2)]), False)

    def test_other_shapes_show_nothing(self):
        for paper in (None, (), ((0, 0, 0),), [None], [[0, 0, 0]], [(0, 0)], [(0, 0, 0, 0)], [(False, 0, 0)], [(0, False, 0)],
                      [(0, 0, False)], [(0, None, 0)], [("0", 0, 0)], [(0, 0, 0.0)], {0: 0}):
            self.assertIs(lean_shows(BIPHASE, (-1, 1), paper), False, paper)
        for both in (None, [-1, 1], (-1,), (-1, 1, 1), (-1, True), (False, 1), (None, None), (-1.0, 1), "01"):
            self.assertIs(lean_shows(BIPHASE, both, [(0, 0, 0)]), False, both)
        for thing in ANYTHING:
            self.assertIs(lean_shows(BIPHASE, (-1, 1), thing), False)
            self.assertIs(lean_shows(BIPHASE, (-1, 1), [thing]), False)

    def test_numbers_far_off_or_below_0(self):
        self.assertIs(lean_shows(BIPHASE, (-FAR, FAR), [(0, 0, 0)]), True)
        self.assertIs(lean_shows(BIPHASE, (FAR, -FAR), [(0, 0, 0)]), False)
        self.assertIs(lean_shows(BIPHASE, (-FAR, FAR), [(0, -FAR, FAR)]), False)
        self.assertIs(lean_shows(BIPHASE, (-FAR - 1, FAR + 1), [(0, -FAR, FAR)]), True)
        self.assertIs(lean_shows(BIPHASE, (-FAR - 1, FAR + 1), [(0, FAR, FAR)]), False)
        self.assertIs(lean_shows(BIPHASE, (-1, 1), [(0, -FAR, 0)]), False)
        self.assertIs(lean_shows(BIPHASE, (-1, 1), [(0, 0, FAR)]), False)
        self.assertIs(lean_shows(UP_ALONE, (-FAR, FAR), [(0, -FAR, FAR)]), False)

    def test_the_paper_may_lie_beyond_what_it_shows(self):
        # The words from state 1 lead up at once, so its low need not be from the least on.
        code = (1, 2, [[("11", 1), ("11", 1)], [("11", 2), ("11", 2)], [("01", 2), ("10", 2)]])
        self.assertIs(lean_shows(code, (0, 5), [(0, 0, 0), (1, -1, 2), (2, 1, 4)]), True)
        self.assertIs(lean_shows(code, (0, 5), [(0, 0, 0), (1, -2, 2), (2, 0, 4)]), False)

    def test_long_papers(self):
        self.assertIs(lean_shows(BIPHASE, (-1, 1), [(0, 0, 0)] * 2000), False)
        self.assertIs(lean_shows(BIPHASE, (-1, 1), [(state, 0, 0) for state in range(2000)]), False)

    def test_against_the_words(self):
        chance = random.Random(60)
        shown = 0
        for code in small_codes(61, 200) + level_codes(62, 300) + [BIPHASE, BALANCED, SIX, SKIPPED]:
            base = lean_paper(code) or [(state, chance.randint(-3, 1), chance.randint(-1, 3)) for state in sorted(states_come_to(code))]
            bounds = lean(code) or (-3, 3)
            for _ in range(12):
                by = (chance.randint(0, 2), chance.randint(0, 2)) if chance.random() < 0.6 else (0, 0)
                paper = [(state, low - by[0], high + by[1]) for state, low, high in base]
                if chance.random() < 0.5:
                    place = chance.randrange(len(paper))
                    state, low, high = paper[place]
                    paper[place] = (state, low + chance.randint(-1, 2), high + chance.randint(-2, 1))
                both = (bounds[0] - chance.randint(-1, 3), bounds[1] + chance.randint(-1, 3))
                truth = shows_lean(code, both, paper)
                self.assertIs(lean_shows(code, both, paper), truth, (code, both, paper))
                if truth:
                    shown += 1
                    least, greatest = lean(code)
                    self.assertLessEqual(both[0], least)
                    self.assertLessEqual(greatest, both[1])
        self.assertGreater(shown, 500)

    def test_no_paper_shows_what_is_not_so(self):
        for code in small_codes(63, 60) + [BIPHASE, BALANCED]:
            states = sorted(states_come_to(code))
            if len(states) > 2:
                continue
            both = (-4, 4) if lean(code) is None else (lean(code)[0], lean(code)[1] - 1)
            pairs = list(itertools.product(range(-3, 4), repeat=2))
            for told in itertools.product(pairs, repeat=len(states)):
                self.assertIs(lean_shows(code, both, [(state,) + pair for state, pair in zip(states, told)]), False)


class Texts(unittest.TestCase):
    def test_lean_so_far(self):
        found = {True: 0, False: 0}
        for code in NAMED + ANYWHERE + [SKIPPED] + small_codes(64, 200) + wide_codes(65, 200) + level_codes(66, 300):
            answer, both = lean_texts(code), lean(code)
            found[both is None] += 1
            self.assertIsInstance(answer, tuple)
            self.assertEqual([type(part) for part in answer], [list, list])
            if both is None:
                self.holds_loop(code, answer[0], answer[1])
            else:
                self.assertEqual(min(leans_of(sent(code, 0, answer[0])[0])), both[0], (code, answer))
                self.assertEqual(max(leans_of(sent(code, 0, answer[1])[0])), both[1], (code, answer))
        self.assertGreater(found[True], 200)
        self.assertGreater(found[False], 200)

    def holds_loop(self, code, text, loop):
        ends = [lean_at_end(sent(code, 0, text + loop * times)[0]) for times in range(8)]
        more = [one < other for one, other in zip(ends, ends[1:])]
        less = [one > other for one, other in zip(ends, ends[1:])]
        self.assertTrue(all(more) or all(less), (code, text, loop))
        # By the state it is sure for ever.
        state = state_behind(code, 0, text)
        self.assertEqual(state_behind(code, state, loop), state, (code, text, loop))

    def test_by_hand(self):
        least, greatest = lean_texts(BALANCED)
        self.assertEqual(min(leans_of(wire_of(BALANCED, 0, least))), 0)
        self.assertEqual(max(leans_of(wire_of(BALANCED, 0, greatest))), 2)
        # The loop lies away from state 0, and is of two letters.
        code = (1, 2, [[("01", 1), ("10", 1)], [("11", 2), ("10", 1)], [("01", 1), ("10", 2)]])
        text, loop = lean_texts(code)
        self.holds_loop(code, text, loop)
        self.holds_loop(DOWN_ALONE, *lean_texts(DOWN_ALONE))
        self.holds_loop(UP_ALONE, *lean_texts(UP_ALONE))


class NothingKept(unittest.TestCase):
    def test_nothing_is_changed(self):
        for code in NAMED + [BALANCED] + wide_codes(67, 30) + level_codes(68, 30):
            handed = copy.deepcopy(code)
            lean(handed), lean_texts(handed)
            paper = lean_paper(handed)
            if paper is not None:
                held = list(paper)
                lean_shows(handed, (-5, 5), held)
                self.assertEqual(held, paper)
            self.assertEqual(handed, code)

    def test_told_lists_are_the_askers_own(self):
        for code in NAMED + ANYWHERE + level_codes(69, 30):
            first, paper = lean_texts(code), lean_paper(code)
            kept, kept_paper = copy.deepcopy(first), copy.deepcopy(paper)
            self.assertIsNot(first[0], first[1])
            first[0].append(0)
            first[1].clear()
            if paper is not None:
                paper.append((9, 9, 9))
            self.assertEqual(lean_texts(code), kept)
            self.assertEqual(lean_paper(code), kept_paper)

    def test_a_code_that_is_changed_is_asked_anew(self):
        code = copy.deepcopy(BIPHASE)
        self.assertEqual(lean(code), (-1, 1))
        code[2][0][1] = ("11", 0)
        self.assertIsNone(lean(code))


if __name__ == "__main__":
    unittest.main()
