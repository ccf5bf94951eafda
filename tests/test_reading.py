"""Points 6, 7 and 8: plain codes, how late a code is, what is never told apart, what is certain; and point 2 of them."""

import copy
import itertools
import random
import unittest

from ownbeat.codes import sent
from ownbeat.errors import NoCode, NoWire
from ownbeat.reading import is_plain, late, never, never_shows, read, read_plain
from samples import (BIPHASE, BLIND, EIGHT, FAR_BLIND, LONG_LATE, NAMED, NO_TEXTS, ONE_LATE, SIX, THREE, TURNING, rows,
                     small_codes, state_behind, states_come_to, wide_codes, wire_of)

# Plain but for a state that is come to by way of another one.
BEHIND_BLIND = (1, 1, [[("0", 0), ("1", 1)], [("1", 1), ("0", 2)], [("1", 0), ("1", 1)]])


def told_apart_by(code, length):
    """Whether any two rows of so many letters with unlike first letters come to unlike wires."""
    for state in states_come_to(code):
        firsts = {}
        for row in rows(code, length):
            if firsts.setdefault(wire_of(code, state, row), row[0]) != row[0]:
                return False
    return True


def slow_late(code):
    # Rows that are late by a number come to no two states twice, in whatever order, and never to one state.
    count = len(code[2])
    for d in range(count * (count - 1) // 2 + 1):
        if told_apart_by(code, d + 1):
            return d
    return None


def shows_never(code, answer):
    state, one, other, place = answer
    if state not in states_come_to(code) or len(one) != len(other) or not 0 <= place < len(one):
        return False
    if not all(0 <= letter < 2 ** code[0] for letter in one + other) or one[0] == other[0]:
        return False
    return wire_of(code, state, one) == wire_of(code, state, other) and all(
        state_behind(code, state, text[:place]) == state_behind(code, state, text) for text in (one, other))


def slow_read(code, wire):
    """The certain letters, or the number of the first word by which this is the beginning of no wire."""
    words = -(-len(wire) // code[1])
    wires = {text: wire_of(code, 0, text) for text in rows(code, words)}
    for at in range(words):
        beginning = wire[:(at + 1) * code[1]]
        if not any(one.startswith(beginning) for one in wires.values()):
            return at
    texts = [text for text, one in wires.items() if one.startswith(wire)]
    certain = 0
    while certain < words and len({text[certain] for text in texts}) == 1:
        certain += 1
    return list(texts[0][:certain])


class Plain(unittest.TestCase):
    def test_by_hand(self):
        for code in (BIPHASE, TURNING, FAR_BLIND, THREE, SIX, EIGHT):
            self.assertIs(is_plain(code), True, code)
        for code in (BLIND, ONE_LATE, LONG_LATE, BEHIND_BLIND):
            self.assertIs(is_plain(code), False, code)

    def test_all_sizes(self):
        told = []
        for code in wide_codes(4, 150) + small_codes(5, 100):
            plain = all(len({row[0] for row in code[2][state]}) == 2 ** code[0] for state in states_come_to(code))
            told.append(is_plain(code))
            self.assertIs(told[-1], plain, code)
        self.assertIn(True, told)
        self.assertIn(False, told)

    def test_read_by_hand(self):
        self.assertEqual(read_plain(BIPHASE, "011001"), [0, 1, 0])
        self.assertEqual(read_plain(TURNING, "1101"), [1, 0, 1, 1])
        self.assertEqual(read_plain(THREE, "101000"), [5, 0])

    def test_no_signs(self):
        for code in NAMED:
            if is_plain(code):
                self.assertEqual(read_plain(code, ""), [])

    def test_sent_is_read_back(self):
        chance = random.Random(6)
        for code in wide_codes(7, 150):
            if is_plain(code):
                text = [chance.randrange(2 ** code[0]) for _ in range(30)]
                self.assertEqual(read_plain(code, sent(code, 0, text)[0]), text)

    def test_long_wires(self):
        text = [0, 1, 1, 1] * 500
        self.assertEqual(read_plain(BIPHASE, sent(BIPHASE, 0, text)[0]), text)
        self.assertEqual(read_plain(TURNING, "01" * 2500), [0] + [1] * 4999)

    def test_no_wire_by_hand(self):
        for wire, at in (("0", 0), ("1", 0), ("00", 0), ("0111", 1), ("011", 1), ("0110x", 2), ("01 0", 1), ("x", 0), ("2", 0),
                         ("0110011", 3), ("0011", 0), ("01100", 2), ("01" * 2000 + "11", 2000), ("01\n", 1)):
            self.refused_plain(BIPHASE, wire, at)
        # The word is one of another state.
        self.refused_plain(SIX, "011010" + "010011", 1)
        self.refused_plain(SIX, "010110" + "010110", 1)

    def test_no_wire_of_all_wires(self):
        for code in small_codes(8, 60):
            if not is_plain(code):
                continue
            for length in range(2 * code[1] + 2):
                for signs in itertools.product("01x" if length < 4 else "01", repeat=length):
                    wire = "".join(signs)
                    answer = self.slow_read_plain(code, wire)
                    if isinstance(answer, int):
                        self.refused_plain(code, wire, answer)
                    else:
                        self.assertEqual(read_plain(code, wire), answer)

    def test_no_text(self):
        for thing in NO_TEXTS:
            self.refused_plain(BIPHASE, thing, 0)

    def test_no_code_ahead(self):
        for code in (BLIND, ONE_LATE, BEHIND_BLIND):
            for wire in ["", "0", "01", "x", "000"] + NO_TEXTS:
                with self.assertRaises(NoCode):
                    read_plain(code, wire)

    def refused_plain(self, code, wire, at):
        with self.assertRaises(NoWire, msg=repr((code, wire))) as caught:
            read_plain(code, wire)
        self.assertEqual(caught.exception.at, at, (code, wire))

    def slow_read_plain(self, code, wire):
        state, text = 0, []
        for at in range(0, len(wire), code[1]):
            found = [letter for letter, row in enumerate(code[2][state]) if row[0] == wire[at:at + code[1]]]
            if not found:
                return at // code[1]
            text += found
            state = code[2][state][found[0]][1]
        return text


class Late(unittest.TestCase):
    def test_by_hand(self):
        for code in (BIPHASE, TURNING, FAR_BLIND, THREE, SIX, EIGHT):
            self.assertEqual(late(code), 0)
            self.assertIsNone(never(code))
        self.assertEqual(late(ONE_LATE), 1)
        self.assertIsNone(never(ONE_LATE))
        self.assertEqual(late(LONG_LATE), 3)
        self.assertIsNone(late(BLIND))
        self.assertIsNone(late(BEHIND_BLIND))

    def test_unlike_ways_for_ever(self):
        # The letters of state 0 come to unlike states, which send one wire for ever.
        code = (1, 1, [[("0", 1), ("0", 2)], [("0", 1), ("1", 1)], [("1", 2), ("0", 2)]])
        self.assertIsNone(late(code))
        self.assertTrue(shows_never(code, never(code)))
        # Here they meet in one state.
        code = (1, 1, [[("0", 1), ("0", 2)], [("0", 0), ("1", 0)], [("0", 0), ("0", 0)]])
        self.assertIsNone(late(code))
        self.assertTrue(shows_never(code, never(code)))

    def test_against_all_rows(self):
        told = {}
        for code in NAMED[:4] + small_codes(9, 400):
            if len(code[2]) > 4:
                continue
            answer = late(code)
            self.assertEqual(answer, slow_late(code), code)
            self.assertNotIsInstance(answer, bool)
            self.assertEqual(answer == 0, is_plain(code))
            told[answer] = told.get(answer, 0) + 1
        for number in (None, 0, 1, 2):
            self.assertIn(number, told)

    def test_never_told_apart(self):
        found = 0
        for code in small_codes(10, 300) + wide_codes(11, 200):
            answer = never(code)
            self.assertEqual(answer is None, late(code) is not None, code)
            if answer is None:
                continue
            found += 1
            self.assertIsInstance(answer, tuple)
            self.assertEqual([type(part) for part in answer], [int, list, list, int])
            self.assertTrue(shows_never(code, answer), (code, answer))
            self.assertIs(never_shows(code, answer), True)
            state, one, other, place = answer
            for times in range(3):
                self.assertEqual(sent(code, state, one + one[place:] * times), (sent(code, state, other + other[place:] * times)[0],
                                                                              state_behind(code, state, one)))
        self.assertGreater(found, 50)

    def test_states_not_come_to(self):
        self.assertIs(never_shows(FAR_BLIND, (1, [0], [1], 0)), False)
        self.assertIs(never_shows((1, 2, [FAR_BLIND[2][1], FAR_BLIND[2][1]]), (1, [0], [1], 0)), True)


class NeverShows(unittest.TestCase):
    def test_by_hand(self):
        self.assertIs(never_shows(BLIND, (0, [0], [1], 0)), True)
        self.assertIs(never_shows(BLIND, (0, [1, 0, 0], [0, 1, 0], 2)), True)
        self.assertIs(never_shows(BEHIND_BLIND, (2, [0, 1, 0], [1, 0, 0], 1)), False)

    def test_both_must_come_back(self):
        # Behind the first letters the states are 1 and 2; only the one comes back at once.
        code = (1, 1, [[("0", 1), ("0", 2)], [("0", 1), ("1", 1)], [("0", 3), ("1", 3)], [("0", 2), ("1", 2)]])
        self.assertIs(never_shows(code, (0, [0, 0], [1, 0], 1)), False)
        self.assertIs(never_shows(code, (0, [1, 0], [0, 0], 1)), False)
        self.assertIs(never_shows(code, (0, [0, 0, 0], [1, 0, 0], 1)), True)
        self.assertIs(never_shows(code, (0, [0, 0, 0], [1, 0, 0], 0)), False)
        self.assertIs(never_shows(code, (0, [0, 0, 0], [1, 0, 0], 2)), False)
        self.assertIs(never_shows(code, (0, [0, 0, 1], [1, 0, 0], 1)), False)

    def test_out_of_bounds(self):
        for answer in ((1, [0], [1], 0), (-1, [0], [1], 0), (10 ** 29, [0], [1], 0), (0, [0], [1], 1), (0, [0], [1], -1),
                       (0, [0], [1], 10 ** 29), (0, [0], [1], -10 ** 29), (0, [], [], 0), (0, [], [], -1), (0, [0], [1, 0], 0),
                       (0, [0, 1], [1], 0), (0, [], [1], 0), (0, [0], [], 0), (0, [0], [0], 0), (0, [0], [2], 0), (0, [-1], [1], 0),
                       (0, [10 ** 29], [0], 0), (0, [0, 2], [1, 0], 0), (0, [0, 0], [1, -2], 0), (0, [0, 1], [0, 0], 0)):
            self.assertIs(never_shows(BLIND, answer), False, answer)

    def test_other_shapes_show_nothing(self):
        for answer in ((False, [0], [1], 0), (0, [0], [1], False), (0, [False], [True], 0), (0, (0,), (1,), 0), (0, [0], [1]),
                       (0, [0], [1], 0, 0), [0, [0], [1], 0], (0, [0], [1], None), ("0", [0], [1], 0), (0, ["0"], [1], 0), None):
            self.assertIs(never_shows(BLIND, answer), False, answer)

    def test_long_lists(self):
        self.assertIs(never_shows(BLIND, (0, [0] * 2000, [1] * 2000, 1999)), True)
        self.assertIs(never_shows(BLIND, (0, [0] * 2000, [1] * 1999, 1998)), False)
        self.assertIs(never_shows(BLIND, (0, [0] * 2000, [1] * 1999 + [2], 1998)), False)

    def test_all_short_answers(self):
        shown = 0
        for code in small_codes(12, 25):
            letters = range(-1, 2 ** code[0] + 1) if code[0] < 3 else (0, 1, 7, 8)
            for state in range(-1, len(code[2]) + 1):
                for length in (0, 1, 2):
                    for one in itertools.product(letters, repeat=length):
                        for other in itertools.product(letters, repeat=length):
                            for place in range(-1, length + 1):
                                answer = (state, list(one), list(other), place)
                                truth = shows_never(code, answer)
                                self.assertIs(never_shows(code, answer), truth, (code, answer))
                                shown += truth
        self.assertGreater(shown, 50)

    def test_what_shows_is_so(self):
        chance = random.Random(13)
        for code in small_codes(14, 150):
            for _ in range(20):
                length = chance.randint(1, 5)
                answer = (chance.randrange(len(code[2])), [chance.randrange(2 ** code[0]) for _ in range(length)],
                          [chance.randrange(2 ** code[0]) for _ in range(length)], chance.randrange(length))
                if never_shows(code, answer):
                    self.assertIsNone(late(code))


class Read(unittest.TestCase):
    def test_by_hand(self):
        # The first sign is 0 always, then each sign is the letter ahead.
        self.assertEqual(read(ONE_LATE, ""), [])
        self.assertEqual(read(ONE_LATE, "0"), [])
        self.assertEqual(read(ONE_LATE, "01"), [1])
        self.assertEqual(read(ONE_LATE, "0101"), [1, 0, 1])
        self.refused(ONE_LATE, "1", 0)
        self.assertEqual(read(BIPHASE, "0110"), [0, 1])
        # A word that is cut may tell its letter.
        self.assertEqual(read(BIPHASE, "01101"), [0, 1, 1])
        self.assertEqual(read(THREE, "10100"), [5])
        self.assertEqual(read(SIX, "0101"), [0])
        self.assertEqual(read(SIX, "010"), [0])
        self.assertEqual(read(SIX, "01"), [])
        # Four words long nothing is told but by the last one's first sign.
        self.assertEqual(read(LONG_LATE, "000000"), [])
        self.assertEqual(read(LONG_LATE, "0000001"), [1, 0, 0])
        self.assertEqual(read(LONG_LATE, "0000000"), [0, 0, 0])

    def test_cut_word_of_letters_to_one_state(self):
        code = (1, 2, [[("00", 0), ("01", 0)]])
        self.assertEqual(read(code, "0"), [])
        self.assertEqual(read(code, "010"), [1])
        self.refused(code, "011", 1)

    def test_against_all_texts(self):
        found = {}
        for code in small_codes(15, 250):
            number = late(code)
            if number is None:
                continue
            found[number] = found.get(number, 0) + 1
            limit = (4 if code[0] == 1 else 2) * code[1]
            for length in range(min(limit, 7) + 1):
                for signs in itertools.product("01", repeat=length):
                    self.holds(code, "".join(signs))
        for number in (0, 1, 2):
            self.assertIn(number, found)

    def test_longer_wires_against_all_texts(self):
        chance = random.Random(16)
        for code in small_codes(17, 250):
            if code[0] > 2 or late(code) is None:
                continue
            for _ in range(4):
                text = [chance.randrange(2 ** code[0]) for _ in range(8 // code[0])]
                wire = wire_of(code, 0, text)
                wire = wire[:chance.randint(0, len(wire))]
                self.holds(code, wire)
                place = chance.randrange(len(wire) + 1)
                self.holds(code, wire[:place] + chance.choice("01x") + wire[place + 1:])

    def test_sent_is_read_back_as_soon_as_told(self):
        chance = random.Random(18)
        for code in NAMED + small_codes(19, 100) + wide_codes(20, 100):
            number = late(code)
            if number is None:
                continue
            text = [chance.randrange(2 ** code[0]) for _ in range(40)]
            certain = read(code, sent(code, 0, text)[0])
            self.assertEqual(certain, text[:len(certain)])
            self.assertGreaterEqual(len(certain), 40 - number)

    def test_plain_codes_are_read_alike(self):
        for code in NAMED:
            if is_plain(code):
                wire = sent(code, 0, [0, 1] * 20)[0]
                self.assertEqual(read(code, wire), read_plain(code, wire))

    def test_long_wires(self):
        text = [0, 1, 1] * 666
        self.assertEqual(read(ONE_LATE, sent(ONE_LATE, 0, text)[0]), text[:-1])
        self.assertEqual(read(ONE_LATE, "0" * 5000), [0] * 4999)
        self.refused(ONE_LATE, "0" * 4999 + "x", 4999)
        self.assertEqual(read(THREE, "101" * 1666 + "1"), [5] * 1666)

    def test_refused_at(self):
        for wire, at in (("00", 0), ("0", None), ("0111", 1), ("011x", 1), ("01x", 1), ("x", 0), ("0110 ", 2), ("1", None)):
            if at is not None:
                self.refused(BIPHASE, wire, at)
        # What is no beginning is found at a later word than the one that was wrong for the text.
        self.refused(LONG_LATE, "01", 0)
        self.refused(LONG_LATE, "0001" + "01" + "11" + "1", 4)
        self.refused(SIX, "010110" + "0100" + "0", 1)

    def test_no_text(self):
        for thing in NO_TEXTS:
            self.refused(ONE_LATE, thing, 0)
            self.refused(BIPHASE, thing, 0)

    def test_no_code_ahead(self):
        for code in (BLIND, BEHIND_BLIND):
            for wire in ["", "0", "01", "x", "000"] + NO_TEXTS:
                with self.assertRaises(NoCode):
                    read(code, wire)
        self.assertEqual(read(FAR_BLIND, "01"), [0])

    def holds(self, code, wire):
        answer = slow_read(code, wire)
        if isinstance(answer, int):
            self.refused(code, wire, answer)
        else:
            self.assertEqual(read(code, wire), answer, (code, wire))

    def refused(self, code, wire, at):
        with self.assertRaises(NoWire, msg=repr((code, wire))) as caught:
            read(code, wire)
        self.assertEqual(caught.exception.at, at, (code, wire))


class NothingKept(unittest.TestCase):
    def test_nothing_is_changed(self):
        for code in NAMED + wide_codes(21, 40):
            handed = copy.deepcopy(code)
            is_plain(handed), late(handed)
            answer = never(handed)
            if answer is None:
                read(handed, sent(handed, 0, [0, 1])[0])
            else:
                held = copy.deepcopy(answer)
                never_shows(handed, held)
                self.assertEqual(held, answer)
            self.assertEqual(handed, code)

    def test_told_lists_are_the_askers_own(self):
        for code in [BLIND, BEHIND_BLIND] + [code for code in wide_codes(22, 40) if late(code) is None]:
            first = never(code)
            kept = copy.deepcopy(first)
            self.assertIsNot(first[1], first[2])
            first[1].clear()
            first[2].append(9)
            self.assertEqual(never(code), kept)
        for reader in (read, read_plain):
            told = reader(BIPHASE, "0110")
            told.append(5)
            self.assertEqual(reader(BIPHASE, "0110"), [0, 1])
            self.assertIsNot(reader(BIPHASE, ""), reader(BIPHASE, ""))

    def test_a_code_that_is_changed_is_asked_anew(self):
        code = copy.deepcopy(BIPHASE)
        self.assertEqual(late(code), 0)
        code[2][0][1] = ("01", 0)
        self.assertIsNone(late(code))
        self.assertIs(is_plain(code), False)


if __name__ == "__main__":
    unittest.main()
