"""Codes and odd things that the tests are fed with, and slow answers written from the document's words."""

import itertools
import random

# Plain, one state.
BIPHASE = (1, 2, [[("01", 0), ("10", 0)]])
# Plain, and each sign is the other one where a 1 is sent: stands still for ever by noughts.
TURNING = (1, 1, [[("0", 0), ("1", 1)], [("1", 1), ("0", 0)]])
# Both letters have one word and lead back: never told apart.
BLIND = (1, 2, [[("01", 0), ("01", 0)]])
# The letter is told by the next word.
ONE_LATE = (1, 1, [[("0", 1), ("0", 2)], [("0", 1), ("0", 2)], [("1", 1), ("1", 2)]])
# A plain code with a state that can't be come to and in which nothing is told apart, and stands still.
FAR_BLIND = (1, 2, [[("01", 0), ("10", 0)], [("11", 1), ("11", 1)]])
# Three bits, one state, all words of three signs.
THREE = (3, 3, [[(format(letter, "03b"), 0) for letter in range(8)]])
# Two bits, words of six signs, no run longer than within.
SIX = (2, 6, [[("010110", 1), ("011010", 0), ("100101", 1), ("101001", 0)],
              [("001101", 0), ("010011", 1), ("101100", 1), ("110010", 0)]])
# Told apart after a row of states has been gone through: the letters 0 and 1 of state 0 come to 1 and 4.
LONG_LATE = (1, 2, [[("00", 1), ("00", 4)],
                    [("00", 2), ("01", 2)], [("00", 3), ("01", 3)], [("00", 0), ("01", 0)],
                    [("00", 5), ("01", 5)], [("00", 6), ("01", 6)], [("10", 0), ("11", 0)]])
EIGHT = (1, 2, [[("01", (state + 1) % 8), ("10", (state + 3) % 8)] for state in range(8)])

NAMED = [BIPHASE, TURNING, BLIND, ONE_LATE, FAR_BLIND, THREE, SIX, LONG_LATE, EIGHT]


class Odd:
    """Equal to nothing that is asked, and of no kind that the document tells."""

    def __eq__(self, other):
        raise RuntimeError("not to be compared")

    __hash__ = None


# No list of letters is among these, and no code.
ANYTHING = [None, True, False, 0, 1, -1, 7, 10 ** 29, 0.0, 1.5, float("nan"), "", "0", "01", "x", b"01", bytearray(b"0"),
            (), (0,), (0, 1), [[]], [None], {}, {0: 1}, {0, 1}, frozenset(), range(2), object(), Odd(), int, len,
            iter([0]), 1j, [Odd()], (1, 2, 3), ["0"], [1.0], [True], [False, 0], [0, True], [0, None], [-1]]


def random_code(chance, k, n, count):
    words = ["".join(signs) for signs in itertools.product("01", repeat=n)]
    # Few words make codes that are late or never told apart, many make plain ones.
    words = chance.sample(words, chance.randint(1, len(words)))
    states = []
    for _ in range(count):
        if len(words) >= 2 ** k and chance.random() < 0.5:
            chosen = chance.sample(words, 2 ** k)
        else:
            chosen = [chance.choice(words) for _ in range(2 ** k)]
        states.append([(one, chance.randrange(count)) for one in chosen])
    return (k, n, states)


def one_way_code(chance, n, count):
    """Like letters with like words stand in unlike states, as in codes that are late by a number."""
    words = ["".join(signs) for signs in itertools.product("01", repeat=n)]
    states = []
    for _ in range(count):
        word = chance.choice(words)
        other = word if chance.random() < 0.7 else chance.choice(words)
        states.append([(word, chance.randrange(count)), (other, chance.randrange(count))])
    return (1, n, states)


def small_codes(seed, count):
    """Codes so small that all their texts of some letters can be gone through."""
    chance = random.Random(seed)
    codes = []
    for _ in range(count):
        shape = chance.choice([(1, 1), (1, 2), (1, 3), (1, 4), (2, 1), (2, 2), (2, 3), (3, 1), (3, 2)])
        codes.append(random_code(chance, shape[0], chance.randint(1, 3), shape[1]))
        codes.append(one_way_code(chance, chance.randint(1, 2), chance.randint(2, 4)))
    return codes


def wide_codes(seed, count):
    """Codes of all sizes that the document lets be."""
    chance = random.Random(seed)
    return [random_code(chance, chance.randint(1, 3), chance.randint(1, 6), chance.randint(1, 8)) for _ in range(count)]


def rows(code, length):
    return itertools.product(range(2 ** code[0]), repeat=length)


def wire_of(code, state, text):
    wire = ""
    for letter in text:
        word, state = code[2][state][letter]
        wire += word
    return wire


def state_behind(code, state, text):
    for letter in text:
        state = code[2][state][letter][1]
    return state


def states_come_to(code):
    found = {0}
    for _ in code[2]:
        found |= {row[1] for state in found for row in code[2][state]}
    return found


def longest_run(wire):
    return max((len(list(group)) for _, group in itertools.groupby(wire)), default=0)
