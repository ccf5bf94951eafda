"""Points 13 and 14: where a wire may end, behind how many words a code settles, what never does; and point 2 of them."""

import copy
import itertools
import random
import unittest

from ownbeat.codes import sent
from ownbeat.errors import NoWire
from ownbeat.settling import ends, settles, unsettled, unsettled_shows
from samples import (ANYTHING, ANYWHERE, BALANCED, BIPHASE, BLIND, DELAY, EIGHT, FAR_BLIND, NAMED, NO_TEXTS, ONE_LATE, SHIFT,
                     SIX, THREE, TURNING, rows, small_codes, state_behind, wide_codes, wire_of)

FAR = 10 ** 29
# It takes eleven words, which is more than there are states.
ELEVEN = (1, 2, [[("01", 0), ("11", 2)], [("01", 5), ("00", 5)], [("00", 3), ("11", 2)], [("00", 1), ("01", 0)],
                 [("11", 5), ("00", 5)], [("01", 4), ("00", 6)], [("11", 4), ("01", 2)]])
# The states 0 and 1 are told apart at once; 2 and 3, which can't be come to from them, never are.
FAR_UNSETTLED = (1, 2, [[("00", 0), ("01", 1)], [("10", 0), ("11", 1)], [("00", 2), ("01", 2)], [("00", 3), ("01", 3)]])
# Each wire is sent from one state alone, but one word leads to both.
PARTING = (1, 1, [[("0", 0), ("0", 1)], [("1", 0), ("1", 1)]])


def slow_ends(code, wire):
    count = len(wire) // code[1]
    found = {state_behind(code, state, row) for state in range(len(code[2])) for row in rows(code, count)
             if wire_of(code, state, row) == wire}
    return sorted(found)


def level_behind(code, level):
    """Where the wires of one word more may end, all the sets."""
    words = {row[0] for state in code[2] for row in state}
    return {frozenset(row[1] for state in states for row in code[2][state] if row[0] == word)
            for states in level for word in words} - {frozenset()}


def slow_settles(code):
    # All that comes behind a level hangs on it alone, so a level that was there ahead comes for ever.
    levels = [{frozenset(range(len(code[2])))}]
    while levels.count(levels[-1]) == 1:
        levels.append(level_behind(code, levels[-1]))
    settled = [all(len(states) == 1 for states in level) for level in levels]
    again = levels.index(levels[-1])
    if not all(settled[again:]):
        return None
    return max((count + 1 for count, all_one in enumerate(settled) if not all_one), default=0)


def shows_unsettled(code, answer):
    one, other, text, turn, begun, behind = answer
    count = len(code[2])
    if not 0 <= one < count or not 0 <= other < count or len(text) != len(turn):
        return False
    if not all(0 <= letter < 2 ** code[0] for letter in text + turn) or not 0 <= begun < behind <= len(text):
        return False
    if wire_of(code, one, text) != wire_of(code, other, turn):
        return False
    if state_behind(code, one, text) == state_behind(code, other, turn):
        return False
    return (state_behind(code, one, text[:begun]) == state_behind(code, one, text[:behind])
            and state_behind(code, other, turn[:begun]) == state_behind(code, other, turn[:behind]))


class Ends(unittest.TestCase):
    def test_by_hand(self):
        self.assertEqual(ends(BIPHASE, "0110"), [0])
        self.assertEqual(ends(BIPHASE, "0100"), [])
        self.assertEqual(ends(TURNING, "01101"), [1])
        self.assertEqual(ends(EIGHT, "0110"), list(range(8)))
        self.assertEqual(ends(ONE_LATE, "0"), [1, 2])
        self.assertEqual(ends(SHIFT, "1"), [1, 3, 5, 7])
        self.assertEqual(ends(SHIFT, "10"), [2, 6])
        self.assertEqual(ends(SHIFT, "0000110"), [6])
        self.assertEqual(ends(DELAY, "1"), list(range(8)))
        self.assertEqual(ends(PARTING, "01"), [0, 1])

    def test_no_signs(self):
        for code in NAMED + ANYWHERE:
            self.assertEqual(ends(code, ""), list(range(len(code[2]))))

    def test_states_not_come_to(self):
        self.assertEqual(ends(FAR_BLIND, "1111"), [1])
        self.assertEqual(ends(FAR_BLIND, "0111"), [])
        self.assertEqual(ends(FAR_UNSETTLED, "0000"), [0, 2, 3])
        self.assertEqual(ends(FAR_UNSETTLED, "0001"), [1, 2, 3])

    def test_against_all_texts(self):
        found = {}
        for code in small_codes(70, 80):
            for count in range(4 if code[0] == 1 and code[1] < 3 else 3):
                for signs in itertools.product("01", repeat=min(count * code[1], 6) // code[1] * code[1]):
                    wire = "".join(signs)
                    answer = ends(code, wire)
                    self.assertEqual(answer, slow_ends(code, wire), (code, wire))
                    found[len(answer)] = True
        for count in range(5):
            self.assertIn(count, found)

    def test_the_true_state_is_among_them(self):
        chance = random.Random(71)
        for code in NAMED + ANYWHERE + wide_codes(72, 100):
            text = [chance.randrange(2 ** code[0]) for _ in range(30)]
            for state in range(len(code[2])):
                wire, behind = sent(code, state, text)
                answer = ends(code, wire)
                self.assertIsInstance(answer, list)
                self.assertIn(behind, answer)
                self.assertEqual(answer, sorted(set(answer)))

    def test_refused_at(self):
        for code, wire, at in ((BIPHASE, "0", 0), (BIPHASE, "011", 1), (BIPHASE, "0x", 0), (BIPHASE, "010x", 1), (BIPHASE, "x101", 0),
                               (BIPHASE, "0101 ", 2), (BIPHASE, "01 01", 1), (BIPHASE, "012", 1), (BIPHASE, "0\n", 0), (SIX, "01010", 0),
                               (SIX, "010101" * 3 + "0", 3), (TURNING, "0012", 3), (TURNING, " ", 0), (BIPHASE, "01" * 2000 + "1", 2000),
                               # A word that no state sends is a word all the same.
                               (BIPHASE, "00" + "0", 1), (BIPHASE, "11" + "0x", 1), (BIPHASE, "0\u0661", 0), (BIPHASE, "01\uff10\uff11", 1)):
            self.refused(code, wire, at)

    def test_no_text(self):
        for thing in NO_TEXTS:
            self.refused(BIPHASE, thing, 0)
            self.refused(TURNING, thing, 0)

    def test_long_wires(self):
        self.assertEqual(ends(SHIFT, "10" * 2500), [2])
        self.assertEqual(ends(EIGHT, "01" * 2500), list(range(8)))
        self.assertEqual(ends(BIPHASE, "01" * 2499 + "00"), [])
        self.assertEqual(ends(BIPHASE, "00" + "01" * 2499), [])

    def refused(self, code, wire, at):
        with self.assertRaises(NoWire, msg=repr((code, wire))) as caught:
            ends(code, wire)
        self.assertEqual(caught.exception.at, at, (code, wire))


class Settles(unittest.TestCase):
    def test_by_hand(self):
        for code, number in ((BIPHASE, 0), (BLIND, 0), (THREE, 0), (TURNING, 1), (SHIFT, 3), (ELEVEN, 11), (EIGHT, None), (ONE_LATE, None),
                             (PARTING, None), (DELAY, None), (BALANCED, 1)):
            self.assertEqual(settles(code), number, code)
            self.assertIs(unsettled(code) is None, number is not None)

    def test_states_not_come_to(self):
        # One state alone can be come to, but a reader that begins anywhere may begin in the other.
        self.assertEqual(settles(FAR_BLIND), 1)
        self.assertIsNone(settles(FAR_UNSETTLED))
        self.assertTrue(shows_unsettled(FAR_UNSETTLED, unsettled(FAR_UNSETTLED)))

    def test_from_one_state_to_two(self):
        code = (1, 1, [[("0", 1), ("0", 2)], [("1", 2), ("1", 2)], [("1", 2), ("1", 2)]])
        self.assertEqual([settles(code), slow_settles(code)], [2, 2])
        self.assertEqual(ends(code, "0"), [1, 2])
        self.assertEqual(ends(code, "01"), [2])

    def test_against_all_wires(self):
        told = {}
        for code in NAMED + ANYWHERE + [ELEVEN, FAR_UNSETTLED, PARTING] + small_codes(73, 250) + wide_codes(74, 120):
            answer = settles(code)
            self.assertEqual(answer, slow_settles(code), code)
            self.assertNotIsInstance(answer, bool)
            told[answer] = True
        for number in (None, 0, 1, 2, 3, 5, 11):
            self.assertIn(number, told)

    def test_right_behind_so_many_words(self):
        chance = random.Random(75)
        for code in NAMED + ANYWHERE + [ELEVEN] + wide_codes(76, 150):
            number = settles(code)
            if number is None:
                continue
            for state in range(len(code[2])):
                text = [chance.randrange(2 ** code[0]) for _ in range(number + chance.randint(0, 20))]
                wire, behind = sent(code, state, text)
                self.assertEqual(ends(code, wire), [behind])

    def test_and_behind_no_fewer(self):
        for code in ANYWHERE + [ELEVEN, TURNING] + wide_codes(77, 60):
            number = settles(code)
            if number is not None and number > 0:
                level = {frozenset(range(len(code[2])))}
                for _ in range(number - 1):
                    level = level_behind(code, level)
                self.assertTrue(any(len(states) > 1 for states in level), code)

    def test_unsettled(self):
        found = 0
        for code in NAMED + ANYWHERE + [FAR_UNSETTLED, PARTING] + small_codes(78, 250) + wide_codes(79, 250):
            answer = unsettled(code)
            self.assertEqual(answer is None, settles(code) is not None, code)
            if answer is None:
                continue
            found += 1
            self.assertIsInstance(answer, tuple)
            self.assertEqual([type(part) for part in answer], [int, int, list, list, int, int])
            self.assertTrue(shows_unsettled(code, answer), (code, answer))
            self.assertIs(unsettled_shows(code, answer), True)
            one, other, text, turn, begun, behind = answer
            for times in range(4):
                stretched = [row[:begun] + row[begun:behind] * times + row[behind:] for row in (text, turn)]
                wire, state = sent(code, one, stretched[0])
                wire_too, state_too = sent(code, other, stretched[1])
                self.assertEqual(wire, wire_too)
                self.assertNotEqual(state, state_too)
                self.assertGreater(len(ends(code, wire)), 1)
        self.assertGreater(found, 100)


class UnsettledShows(unittest.TestCase):
    def test_by_hand(self):
        self.assertIs(unsettled_shows(EIGHT, (0, 1, [0] * 8, [0] * 8, 0, 8)), True)
        self.assertIs(unsettled_shows(EIGHT, (0, 1, [0] * 8, [0] * 8, 0, 7)), False)
        self.assertIs(unsettled_shows(EIGHT, (0, 1, [0] * 9, [0] * 9, 1, 9)), True)
        self.assertIs(unsettled_shows(EIGHT, (0, 0, [0] * 8, [0] * 8, 0, 8)), False)
        # Two states, perhaps one.
        self.assertIs(unsettled_shows(ONE_LATE, (1, 1, [0, 0], [0, 1], 0, 1)), True)
        self.assertIs(unsettled_shows(ONE_LATE, (1, 1, [0, 0], [0, 1], 1, 2)), False)
        self.assertIs(unsettled_shows(ONE_LATE, (1, 1, [0, 0], [0, 0], 0, 1)), False)
        # The wires are not one.
        self.assertIs(unsettled_shows(ONE_LATE, (1, 2, [0, 0], [0, 1], 0, 1)), False)
        self.assertIs(unsettled_shows(BIPHASE, (0, 0, [0], [1], 0, 1)), False)

    def test_both_must_come_back(self):
        # Sent from 0 and 1 the one stays and the other goes round.
        code = (1, 1, [[("0", 0), ("0", 0)], [("0", 2), ("0", 2)], [("0", 1), ("0", 1)]])
        self.assertIs(unsettled_shows(code, (0, 1, [0], [0], 0, 1)), False)
        self.assertIs(unsettled_shows(code, (1, 0, [0], [0], 0, 1)), False)
        self.assertIs(unsettled_shows(code, (0, 1, [0, 1], [1, 0], 0, 2)), True)
        self.assertIs(unsettled_shows(code, (0, 1, [0, 1, 0], [1, 0, 0], 0, 2)), True)
        self.assertIs(unsettled_shows(code, (0, 1, [0, 1, 0], [1, 0, 0], 1, 3)), True)
        self.assertIs(unsettled_shows(code, (0, 1, [0, 1, 0], [1, 0, 0], 0, 3)), False)
        self.assertIs(unsettled_shows(code, (0, 1, [0, 1, 0], [1, 0, 0], 1, 2)), False)

    def test_states_not_come_to(self):
        self.assertIs(unsettled_shows(FAR_UNSETTLED, (2, 3, [0], [0], 0, 1)), True)
        self.assertIs(unsettled_shows(FAR_UNSETTLED, (0, 2, [0, 0], [0, 1], 0, 1)), False)

    def test_from_and_behind(self):
        for begun, behind in itertools.product((-FAR, -2, -1, 0, 1, 2, 3, 4, FAR), repeat=2):
            told = unsettled_shows(FAR_UNSETTLED, (2, 3, [0, 1, 0], [0, 1, 0], begun, behind))
            self.assertIs(told, 0 <= begun < behind <= 3, (begun, behind))

    def test_out_of_bounds(self):
        for answer in ((4, 3, [0], [0], 0, 1), (2, 4, [0], [0], 0, 1), (-1, 2, [0], [0], 0, 1), (2, -1, [0], [0], 0, 1), (FAR, 3, [0], [0], 0, 1),
                       (2, -FAR, [0], [0], 0, 1), (2, 3, [], [], 0, 0), (2, 3, [], [], 0, 1), (2, 3, [0], [], 0, 1), (2, 3, [], [0], 0, 1),
                       (2, 3, [0, 0], [0], 0, 1), (2, 3, [0], [0, 0], 0, 1), (2, 3, [2], [2], 0, 1), (2, 3, [-2], [-2], 0, 1),
                       (2, 3, [FAR], [0], 0, 1), (2, 3, [0, 2], [0, 0], 0, 1), (2, 3, [0, 0], [0, -1], 0, 1)):
            self.assertIs(unsettled_shows(FAR_UNSETTLED, answer), False, answer)

    def test_other_shapes_show_nothing(self):
        for answer in ((2, 3, [0], [0], 0, True), (2, 3, [0], [0], False, 1), (2, 3, [False], [False], 0, 1), (2, 3, (0,), (0,), 0, 1),
                       (2, 3, [0], [0], 0), (2, 3, [0], [0], 0, 1, 0), [2, 3, [0], [0], 0, 1], (2, 3, [0], [0], None, 1),
                       ("2", 3, [0], [0], 0, 1), (2, 3, ["0"], [0], 0, 1), (2, None, [0], [0], 0, 1)):
            self.assertIs(unsettled_shows(FAR_UNSETTLED, answer), False, answer)
        self.assertIs(unsettled_shows(PARTING, (False, True, [0], [0], 0, 1)), False)
        for thing in ANYTHING:
            self.assertIs(unsettled_shows(FAR_UNSETTLED, thing), False)

    def test_long_lists(self):
        self.assertIs(unsettled_shows(FAR_UNSETTLED, (2, 3, [0, 1] * 1000, [0, 1] * 1000, 1998, 2000)), True)
        self.assertIs(unsettled_shows(FAR_UNSETTLED, (2, 3, [0, 1] * 1000, [0, 1] * 1000, 0, 2000)), True)
        self.assertIs(unsettled_shows(FAR_UNSETTLED, (2, 3, [0, 1] * 1000, [0, 1] * 999 + [0, 0], 0, 1)), False)
        self.assertIs(unsettled_shows(FAR_UNSETTLED, (2, 3, [0] * 2000, [0] * 1999, 0, 1)), False)

    def test_all_short_answers(self):
        shown = 0
        for code in small_codes(80, 7) + [TURNING, PARTING]:
            if code[0] > 2:
                continue
            letters = range(2 ** code[0] + 1)
            for one, other in itertools.product(range(-1, len(code[2]) + 1), repeat=2):
                for length in ((0, 1, 2) if code[0] == 1 else (0, 1)):
                    for text, turn in itertools.product(itertools.product(letters, repeat=length), repeat=2):
                        for begun, behind in itertools.product(range(-1, length + 2), repeat=2):
                            answer = (one, other, list(text), list(turn), begun, behind)
                            truth = shows_unsettled(code, answer)
                            self.assertIs(unsettled_shows(code, answer), truth, (code, answer))
                            shown += truth
        self.assertGreater(shown, 50)

    def test_what_shows_is_so(self):
        chance = random.Random(81)
        for code in small_codes(82, 200):
            for _ in range(20):
                length = chance.randint(1, 4)
                answer = (chance.randrange(len(code[2])), chance.randrange(len(code[2])),
                          [chance.randrange(2 ** code[0]) for _ in range(length)],
                          [chance.randrange(2 ** code[0]) for _ in range(length)], 0, chance.randint(1, length))
                if unsettled_shows(code, answer):
                    self.assertIsNone(settles(code))


class NothingKept(unittest.TestCase):
    def test_nothing_is_changed(self):
        for code in NAMED + ANYWHERE + wide_codes(83, 30):
            handed = copy.deepcopy(code)
            settles(handed), ends(handed, ""), ends(handed, sent(handed, 0, [0, 1])[0])
            answer = unsettled(handed)
            if answer is not None:
                held = copy.deepcopy(answer)
                unsettled_shows(handed, held)
                self.assertEqual(held, answer)
            self.assertEqual(handed, code)

    def test_told_lists_are_the_askers_own(self):
        for wire in ("", "01", "00"):
            told = ends(BIPHASE, wire)
            kept = list(told)
            told.append(7)
            self.assertEqual(ends(BIPHASE, wire), kept)
        for code in (EIGHT, ONE_LATE, PARTING, FAR_UNSETTLED, DELAY):
            first = unsettled(code)
            kept = copy.deepcopy(first)
            self.assertIsNot(first[2], first[3])
            first[2].clear()
            first[3].append(9)
            self.assertEqual(unsettled(code), kept)

    def test_a_code_that_is_changed_is_asked_anew(self):
        code = copy.deepcopy(TURNING)
        self.assertEqual(settles(code), 1)
        code[2][1][0] = ("0", 1)
        self.assertIsNone(settles(code))


if __name__ == "__main__":
    unittest.main()
