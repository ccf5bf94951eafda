"""Points 4 and 5: codes, sending, bits and letters; and point 2 of them."""

import copy
import itertools
import random
import unittest

from ownbeat.codes import bits_of, is_code, letters, sent
from ownbeat.errors import NoLetter
from samples import ANYTHING, BIPHASE, NAMED, ONE_LATE, SIX, THREE, TURNING, state_behind, wide_codes, wire_of


class IsCode(unittest.TestCase):
    def test_codes(self):
        for code in NAMED + wide_codes(1, 60):
            self.assertIs(is_code(code), True, code)

    def test_least_and_greatest(self):
        self.assertIs(is_code((1, 1, [[("0", 0), ("0", 0)]])), True)
        rows = [("010101", 7)] * 8
        self.assertIs(is_code((3, 6, [rows] * 8)), True)
        self.assertIs(is_code((3, 6, [rows] * 9)), False)
        self.assertIs(is_code((3, 6, [rows] * 7)), False)

    def test_numbers_out_of_bounds(self):
        for k in (0, 4, -1, 10 ** 29):
            self.assertIs(is_code((k, 2, BIPHASE[2])), False, k)
        self.assertIs(is_code((0, 2, [[("01", 0)]])), False)
        self.assertIs(is_code((4, 2, [[("01", 0)] * 16])), False)
        self.assertIs(is_code((1, 0, [[("", 0), ("", 0)]])), False)
        self.assertIs(is_code((1, 7, [[("0000000", 0), ("0000000", 0)]])), False)
        self.assertIs(is_code((1, 2, [])), False)

    def test_letters_too_few_or_many(self):
        for k, count in itertools.product((1, 2, 3), range(10)):
            self.assertIs(is_code((k, 2, [[("01", 0)] * count])), count == 2 ** k, (k, count))
        self.assertIs(is_code((1, 2, [BIPHASE[2][0], []])), False)

    def test_words(self):
        for word in ("", "0", "011", "0 ", "02", " 01", "0\n", "\u0660\u0661", "\uff10\uff11", None, 1, 10, ["0", "1"], ("0", "1"), b"01"):
            self.assertIs(is_code((1, 2, [[("01", 0), (word, 0)]])), False, word)

    def test_next_states(self):
        for to in (1, -1, 10 ** 29, True, False, None, "0", 0.0, [0]):
            self.assertIs(is_code((1, 2, [[("01", 0), ("10", to)]])), False, to)

    def test_truths_in_the_place_of_numbers(self):
        self.assertIs(is_code((True, 2, BIPHASE[2])), False)
        self.assertIs(is_code((1, True, TURNING[2])), False)
        self.assertIs(is_code((1, 1, [[("0", False), ("1", True)], [("1", True), ("0", False)]])), False)
        self.assertIs(is_code((1.0, 2, BIPHASE[2])), False)

    def test_lists_and_tuples_as_told(self):
        k, n, states = BIPHASE
        self.assertIs(is_code([k, n, states]), False)
        self.assertIs(is_code((k, n, tuple(states))), False)
        self.assertIs(is_code((k, n, [tuple(states[0])])), False)
        self.assertIs(is_code((k, n, [[list(row) for row in states[0]]])), False)
        self.assertIs(is_code((k, n)), False)
        self.assertIs(is_code((k, n, states, 0)), False)
        self.assertIs(is_code((k, n, [[("01", 0, 0), ("10", 0)]])), False)
        self.assertIs(is_code((k, n, [[("01",), ("10", 0)]])), False)

    def test_anything(self):
        for thing in ANYTHING + [[], [0]]:
            self.assertIs(is_code(thing), False, repr(thing))
            self.assertIs(is_code((thing, 2, BIPHASE[2])), isinstance(thing, int) and thing is not True and thing == 1)
            self.assertIs(is_code((1, 2, thing)), False)
            self.assertIs(is_code((1, 2, [thing])), False)
            self.assertIs(is_code((1, 2, [[thing, ("01", 0)]])), False)


class Sent(unittest.TestCase):
    def test_by_hand(self):
        self.assertEqual(sent(BIPHASE, 0, [0, 1, 1]), ("011010", 0))
        self.assertEqual(sent(TURNING, 0, [1, 0, 1, 1]), ("1101", 1))
        self.assertEqual(sent(TURNING, 1, [1, 0, 1, 1]), ("0010", 0))
        self.assertEqual(sent(SIX, 1, [0, 0, 3]), ("001101010110110010", 0))
        self.assertEqual(sent(THREE, 0, [5, 0, 7]), ("101000111", 0))

    def test_no_letters(self):
        for code in NAMED:
            for state in range(len(code[2])):
                self.assertEqual(sent(code, state, []), ("", state))

    def test_all_sizes(self):
        chance = random.Random(2)
        for code in wide_codes(3, 80):
            text = [chance.randrange(2 ** code[0]) for _ in range(chance.randint(0, 20))]
            state = chance.randrange(len(code[2]))
            answer = sent(code, state, text)
            self.assertIsInstance(answer, tuple)
            self.assertEqual(answer, (wire_of(code, state, text), state_behind(code, state, text)))

    def test_long_text(self):
        self.assertEqual(sent(TURNING, 0, [1] * 1999), ("10" * 999 + "1", 1))
        self.assertEqual(sent(BIPHASE, 0, [0, 1] * 1000), ("0110" * 1000, 0))

    def test_no_text(self):
        for thing in ANYTHING:
            with self.assertRaises(NoLetter, msg=repr(thing)):
                sent(ONE_LATE, 0, thing)

    def test_letters_out_of_bounds(self):
        for code in NAMED:
            greatest = 2 ** code[0] - 1
            sent(code, 0, [0, greatest])
            for letter in (-1, greatest + 1, 10 ** 29, -10 ** 29, True, False, None, "0", 0.0, [0], (0,)):
                for text in ([letter], [0, letter], [letter, 0], [0] * 50 + [letter]):
                    with self.assertRaises(NoLetter):
                        sent(code, 0, text)

    def test_nothing_is_changed(self):
        code, text = copy.deepcopy(SIX), [0, 3, 2, 1]
        first = sent(code, 1, text)
        self.assertEqual((code, text), (SIX, [0, 3, 2, 1]))
        self.assertEqual(sent(code, 1, text), first)
        code[2][1][0] = ("111111", 1)
        self.assertEqual(sent(code, 1, [0]), ("111111", 1))


class Bits(unittest.TestCase):
    def test_by_hand(self):
        self.assertEqual(letters(1, [1, 0, 1]), [1, 0, 1])
        self.assertEqual(letters(2, [1, 0, 0, 1]), [2, 1])
        self.assertEqual(letters(3, [1, 0, 0, 1, 1, 0]), [4, 6])
        self.assertEqual(bits_of(1, [1, 0, 1]), [1, 0, 1])
        self.assertEqual(bits_of(2, [2, 1, 0]), [1, 0, 0, 1, 0, 0])
        self.assertEqual(bits_of(3, [4, 6, 1]), [1, 0, 0, 1, 1, 0, 0, 0, 1])

    def test_there_and_back(self):
        for k in (1, 2, 3):
            for count in range(0, 10, k):
                for bits in itertools.product((0, 1), repeat=count):
                    text = letters(k, list(bits))
                    self.assertEqual(len(text), count // k)
                    self.assertEqual(text, [int("".join(map(str, bits[at:at + k])), 2) for at in range(0, count, k)])
                    self.assertEqual(bits_of(k, text), list(bits))

    def test_none(self):
        for k in (1, 2, 3):
            self.assertEqual(letters(k, []), [])
            self.assertEqual(bits_of(k, []), [])

    def test_somewhat_beyond(self):
        self.assertEqual(letters(5, [1, 0, 0, 0, 1]), [17])
        self.assertEqual(bits_of(5, [17]), [1, 0, 0, 0, 1])
        with self.assertRaises(NoLetter):
            bits_of(5, [32])
        self.assertEqual(letters(0, []), [])
        with self.assertRaises(NoLetter):
            letters(0, [1])

    def test_long_lists(self):
        bits = [1, 1, 0] * 666
        for k in (1, 2, 3):
            self.assertEqual(bits_of(k, letters(k, bits)), bits)

    def test_not_divided(self):
        for k in (2, 3):
            for count in range(1, 20):
                if count % k:
                    with self.assertRaises(NoLetter):
                        letters(k, [0] * count)

    def test_no_bits(self):
        for k in (1, 2, 3):
            for thing in ANYTHING:
                with self.assertRaises(NoLetter, msg=repr(thing)):
                    letters(k, thing)
            for bit in (2, -1, True, False, None, "0", 1.0, [0], 10 ** 29):
                with self.assertRaises(NoLetter):
                    letters(k, [0] * (k - 1) + [bit])
                with self.assertRaises(NoLetter):
                    letters(k, [bit] + [0] * (k - 1))

    def test_no_letters(self):
        for k in (1, 2, 3):
            for thing in ANYTHING:
                with self.assertRaises(NoLetter, msg=repr(thing)):
                    bits_of(k, thing)
            for letter in (2 ** k, -1, True, False, None, "0", 1.0, [0], 10 ** 29):
                for text in ([letter], [0, letter], [letter, 0]):
                    with self.assertRaises(NoLetter):
                        bits_of(k, text)

    def test_new_lists(self):
        bits = [0, 1, 1, 0]
        for k in (1, 2):
            text = letters(k, bits)
            self.assertIsNot(text, bits)
            text.append(0)
            self.assertEqual(bits, [0, 1, 1, 0])
            self.assertEqual(letters(k, bits), text[:-1])
            told = bits_of(k, text)
            self.assertIsNot(told, text)
            told.clear()
            self.assertEqual(bits_of(k, text), bits + [0] * k)


if __name__ == "__main__":
    unittest.main()
