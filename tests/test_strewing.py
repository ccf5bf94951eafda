"""Points 19 and 20: strewn and gathered bits, the round of taps; and point 2 of them."""

import itertools
import random
import unittest

from ownbeat.strewing import gathered, round_of, strewn

ROWS_OF_TAPS = [list(taps) for count in (1, 2) for taps in itertools.combinations(range(1, 13), count)]
ROWS_OF_TAPS += [[1, 2, 3], [1, 4, 6, 12], [6, 8, 11, 12], [2, 5, 7, 9, 11], [1, 2, 3, 4, 5, 6], [7, 8, 9, 10, 11, 12], [1, 3, 5, 7, 9, 12]]


def some_bits(chance, count):
    return [chance.randrange(2) for _ in range(count)]


def turned(bit, times):
    for _ in range(times):
        bit = 1 - bit
    return bit


def slow_strewn(taps, bits):
    row = []
    for place in range(len(bits)):
        ones = [tap for tap in taps if place - tap >= 0 and row[place - tap] == 1]
        row.append(turned(bits[place], len(ones)))
    return row


def slow_gathered(taps, bits):
    row = []
    for place in range(len(bits)):
        ones = [tap for tap in taps if place - tap >= 0 and bits[place - tap] == 1]
        row.append(turned(bits[place], len(ones)))
    return row


def slow_round(taps):
    """By the strewn row itself: a 1 sent behind as many noughts as the greatest tap tells, and noughts behind it."""
    greatest = max(taps)
    row = strewn(taps, [0] * greatest + [1] + [0] * 2 ** greatest)
    assert row[1:greatest + 1] == [0] * (greatest - 1) + [1]
    for steps in range(1, 2 ** greatest):
        if row[1 + steps:greatest + 1 + steps] == row[1:greatest + 1]:
            return steps
    return None


class Strewn(unittest.TestCase):
    def test_by_hand(self):
        self.assertEqual(strewn([1], [1, 0, 0, 1, 0]), [1, 1, 1, 0, 0])
        self.assertEqual(gathered([1], [1, 1, 1, 0, 0]), [1, 0, 0, 1, 0])
        self.assertEqual(strewn([1, 2], [1, 0, 0, 0, 0, 0]), [1, 1, 0, 1, 1, 0])
        self.assertEqual(gathered([1, 2], [1, 0, 0, 0, 0, 0]), [1, 1, 1, 0, 0, 0])
        self.assertEqual(strewn([2, 3], [1, 1, 0, 0, 1, 0, 1]), [1, 1, 1, 0, 1, 1, 0])
        self.assertEqual(gathered([2, 3], [1, 1, 0, 0, 1, 0, 1]), [1, 1, 1, 0, 0, 0, 0])
        self.assertEqual(strewn([12], [1] + [0] * 24), [1] + [0] * 11 + [1] + [0] * 11 + [1])

    def test_no_bits(self):
        for taps in ROWS_OF_TAPS:
            self.assertEqual(strewn(taps, []), [])
            self.assertEqual(gathered(taps, []), [])

    def test_fewer_bits_than_the_taps_tell(self):
        for taps in ROWS_OF_TAPS:
            for bits in ([0], [1], [1] * taps[0]):
                if len(bits) <= taps[0]:
                    self.assertEqual(strewn(taps, bits), bits)
                    self.assertEqual(gathered(taps, bits), bits)
            for count in range(taps[-1] + 2):
                self.assertEqual(strewn(taps, [1] * count), slow_strewn(taps, [1] * count))
                self.assertEqual(gathered(taps, [1] * count), slow_gathered(taps, [1] * count))

    def test_noughts_stay(self):
        for taps in ROWS_OF_TAPS:
            self.assertEqual(strewn(taps, [0] * 40), [0] * 40)
            self.assertEqual(gathered(taps, [0] * 40), [0] * 40)

    def test_all_short_lists(self):
        for taps in ([1], [2], [1, 2], [1, 3], [2, 3, 4], [3, 12]):
            for count in range(8):
                for bits in itertools.product((0, 1), repeat=count):
                    self.holds(taps, list(bits))

    def test_against_the_words(self):
        chance = random.Random(200)
        for taps in ROWS_OF_TAPS + [sorted(chance.sample(range(1, 13), chance.randint(1, 6))) for _ in range(80)]:
            for count in (chance.randint(1, 30), chance.randint(100, 400)):
                self.holds(taps, some_bits(chance, count))

    def holds(self, taps, bits):
        told = strewn(taps, bits)
        self.assertIsInstance(told, list)
        self.assertEqual(told, slow_strewn(taps, bits), (taps, bits))
        back = gathered(taps, bits)
        self.assertIsInstance(back, list)
        self.assertEqual(back, slow_gathered(taps, bits), (taps, bits))
        for bit in told + back:
            self.assertIs(type(bit), int)
            self.assertIn(bit, (0, 1))
        self.assertEqual(gathered(taps, told), bits)
        self.assertEqual(strewn(taps, back), bits)

    def test_long_lists(self):
        bits = some_bits(random.Random(201), 2000)
        for taps in ([1], [12], [1, 4, 6, 12], [7, 8, 9, 10, 11, 12]):
            self.assertEqual(gathered(taps, strewn(taps, bits)), bits)

    def test_a_turned_bit(self):
        chance = random.Random(202)
        for taps in ROWS_OF_TAPS:
            bits = some_bits(chance, 40)
            row = strewn(taps, bits)
            for at in (0, 1, chance.randrange(2, 28), 27, 28, 35, 38, 39):
                wrong = list(row)
                wrong[at] = 1 - wrong[at]
                back = gathered(taps, wrong)
                places = [place for place in range(40) if back[place] != bits[place]]
                self.assertEqual(places, [at + tap for tap in [0] + taps if at + tap < 40])
                if at < 28:
                    self.assertEqual(len(places), len(taps) + 1)

    def test_somewhat_beyond(self):
        chance = random.Random(203)
        for taps in ([13], [5, 20], [1, 2, 3, 4, 5, 6, 7], list(range(1, 14))):
            self.holds(taps, some_bits(chance, 60))


class Round(unittest.TestCase):
    def test_by_hand(self):
        for taps, steps in (([1, 2], 3), ([1, 3], 7), ([2, 3], 7), ([1, 4], 15), ([2, 4], 6), ([1, 2, 3], 4), ([1, 2, 3, 4], 5),
                            ([1, 4, 6, 12], 4095), ([6, 8, 11, 12], 4095), ([1, 2, 3, 4, 5, 6], 7)):
            self.assertEqual(round_of(taps), steps, taps)

    def test_one_tap_alone(self):
        for tap in range(1, 13):
            self.assertEqual(round_of([tap]), tap)

    def test_against_the_strewn_row(self):
        chance = random.Random(204)
        found = {}
        for taps in ROWS_OF_TAPS + [sorted(chance.sample(range(1, 13), chance.randint(3, 6))) for _ in range(40)]:
            told = round_of(taps)
            self.assertIs(type(told), int)
            self.assertEqual(told, slow_round(taps), taps)
            found[told] = True
        self.assertGreater(len(found), 20)

    def test_all_rows_of_few_taps(self):
        for count in range(1, 7):
            for taps in itertools.combinations(range(1, 8), count):
                self.assertEqual(round_of(list(taps)), slow_round(list(taps)), taps)

    def test_somewhat_beyond(self):
        self.assertEqual(round_of([13]), 13)
        self.assertEqual(round_of([1, 2, 3, 4, 5, 6, 7]), 8)
        self.assertEqual(round_of([1, 3, 4, 13]), 2 ** 13 - 1)


class NothingKept(unittest.TestCase):
    def test_nothing_is_changed(self):
        taps, bits = [1, 4, 6], [1, 0, 1, 1, 0, 0, 1, 0, 1]
        for _ in range(2):
            self.assertEqual(strewn(taps, bits), slow_strewn([1, 4, 6], [1, 0, 1, 1, 0, 0, 1, 0, 1]))
            self.assertEqual(gathered(taps, bits), slow_gathered([1, 4, 6], [1, 0, 1, 1, 0, 0, 1, 0, 1]))
            self.assertEqual(round_of(taps), round_of([1, 4, 6]))
            self.assertEqual((taps, bits), ([1, 4, 6], [1, 0, 1, 1, 0, 0, 1, 0, 1]))

    def test_told_lists_are_the_askers_own(self):
        for tell in (strewn, gathered):
            for taps, bits in (([3], []), ([3], [1, 0]), ([3], [0] * 9), ([1, 2], [1, 0, 1, 1])):
                handed = list(bits)
                told = tell(taps, bits)
                kept = list(told)
                self.assertIsNot(told, bits)
                told.append(7)
                self.assertEqual(bits, handed)
                self.assertEqual(tell(taps, bits), kept)

    def test_changed_lists_are_asked_anew(self):
        taps, bits = [1], [1, 0, 0]
        self.assertEqual(strewn(taps, bits), [1, 1, 1])
        self.assertEqual(round_of(taps), 1)
        taps[0] = 2
        bits.append(1)
        self.assertEqual(strewn(taps, bits), [1, 0, 1, 1])
        self.assertEqual(round_of(taps), 2)


if __name__ == "__main__":
    unittest.main()
