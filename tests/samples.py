"""Codes and odd things that the tests are fed with, and slow answers written from the document's words."""

import itertools
import random

# Plain, one state.
BIPHASE = (1, 2, [[("01", 0), ("10", 0)]])
# Plain, and each sign is the other one where a 1 is sent: stands still for ever by noughts.
TURNING = (1, 1, [[("0", 0), ("1", 1)], [("1", 1), ("0", 0)]])
# Both letters have one word and lead back: never told apart.
BLIND = (1, 2, [[("01", 0), ("01", 0)]])
# The letter is told by the next word.
ONE_LATE = (1, 1, [[("0", 1), ("0", 2)], [("0", 1), ("0", 2)], [("1", 1), ("1", 2)]])
# A plain code with a state that can't be come to and in which nothing is told apart, and stands still.
FAR_BLIND = (1, 2, [[("01", 0), ("10", 0)], [("11", 1), ("11", 1)]])
# Three bits, one state, all words of three signs.
THREE = (3, 3, [[(format(letter, "03b"), 0) for letter in range(8)]])
# Two bits, words of six signs, no run longer than within.
SIX = (2, 6, [[("010110", 1), ("011010", 0), ("100101", 1), ("101001", 0)],
              [("001101", 0), ("010011", 1), ("101100", 1), ("110010", 0)]])
# Told apart after a row of states has been gone through: the letters 0 and 1 of state 0 come to 1 and 4.
LONG_LATE = (1, 2, [[("00", 1), ("00", 4)],
                    [("00", 2), ("01", 2)], [("00", 3), ("01", 3)], [("00", 0), ("01", 0)],
                    [("00", 5), ("01", 5)], [("00", 6), ("01", 6)], [("10", 0), ("11", 0)]])
EIGHT = (1, 2, [[("01", (state + 1) % 8), ("10", (state + 3) % 8)] for state in range(8)])

# The wire leans up with the one letter and back with it, in turn.
BALANCED = (1, 2, [[("11", 1), ("10", 0)], [("00", 0), ("01", 1)]])
# The state is the last three letters, which are sent as they are.
SHIFT = (1, 1, [[("0", 2 * state % 8), ("1", (2 * state + 1) % 8)] for state in range(8)])
# The state is the last three letters, and sent is the eldest of them.
DELAY = (1, 1, [[(str(state // 4), 2 * state % 8), (str(state // 4), (2 * state + 1) % 8)] for state in range(8)])
# Windows of six words beside the one: all back, all ahead, three of each; and one that needs seven.
SIX_BACK = (1, 2, [[("11", 3), ("00", 0)], [("00", 5), ("01", 5)], [("00", 0), ("01", 0)], [("01", 4), ("11", 2)],
                   [("00", 5), ("11", 4)], [("11", 4), ("01", 6)], [("01", 0), ("11", 6)], [("01", 1), ("01", 3)]])
SIX_AHEAD = (1, 2, [[("01", 4), ("11", 3)], [("11", 4), ("11", 3)], [("10", 2), ("10", 4)], [("10", 3), ("01", 2)],
                    [("01", 1), ("10", 0)], [("10", 5), ("11", 0)]])
SIX_AROUND = (1, 2, [[("11", 6), ("01", 5)], [("00", 3), ("11", 6)], [("00", 0), ("11", 6)], [("00", 0), ("10", 0)],
                     [("10", 2), ("01", 5)], [("10", 0), ("01", 2)], [("11", 7), ("11", 1)], [("00", 1), ("01", 4)]])
SEVEN_BACK = (1, 2, [[("11", 3), ("01", 4)], [("11", 4), ("00", 1)], [("01", 6), ("00", 2)], [("11", 3), ("00", 2)],
                     [("00", 1), ("01", 2)], [("00", 0), ("01", 5)], [("01", 1), ("00", 0)]])

NAMED = [BIPHASE, TURNING, BLIND, ONE_LATE, FAR_BLIND, THREE, SIX, LONG_LATE, EIGHT]
ANYWHERE = [BALANCED, SHIFT, DELAY, SIX_BACK, SIX_AHEAD, SIX_AROUND, SEVEN_BACK]


class Odd:
    """Equal to nothing that is asked, and of no kind that the document tells."""

    def __eq__(self, other):
        raise RuntimeError("not to be compared")

    __hash__ = None


# No list of letters is among these, and no code.
ANYTHING = [None, True, False, 0, 1, -1, 7, 10 ** 29, 0.0, 1.5, float("nan"), "", "0", "01", "x", b"01", bytearray(b"0"),
            (), (0,), (0, 1), [[]], [None], {}, {0: 1}, {0, 1}, frozenset(), range(2), object(), Odd(), int, len,
            iter([0]), 1j, [Odd()], (1, 2, 3), ["0"], [1.0], [True], [False, 0], [0, True], [0, None], [-1]]

NO_TEXTS = [thing for thing in ANYTHING if not isinstance(thing, str)] + [[], [0]]


def random_code(chance, k, n, count):
    words = ["".join(signs) for signs in itertools.product("01", repeat=n)]
    # Few words make codes that are late or never told apart, many make plain ones.
    words = chance.sample(words, chance.randint(1, len(words)))
    states = []
    for _ in range(count):
        if len(words) >= 2 ** k and chance.random() < 0.5:
            chosen = chance.sample(words, 2 ** k)
        else:
            chosen = [chance.choice(words) for _ in range(2 ** k)]
        states.append([(one, chance.randrange(count)) for one in chosen])
    return (k, n, states)


def one_way_code(chance, n, count):
    """Like letters with like words stand in unlike states, as in codes that are late by a number."""
    words = ["".join(signs) for signs in itertools.product("01", repeat=n)]
    states = []
    for _ in range(count):
        word = chance.choice(words)
        other = word if chance.random() < 0.7 else chance.choice(words)
        states.append([(word, chance.randrange(count)), (other, chance.randrange(count))])
    return (1, n, states)


def small_codes(seed, count):
    """Codes so small that all their texts of some letters can be gone through."""
    chance = random.Random(seed)
    codes = []
    for _ in range(count):
        shape = chance.choice([(1, 1), (1, 2), (1, 3), (1, 4), (2, 1), (2, 2), (2, 3), (3, 1), (3, 2)])
        codes.append(random_code(chance, shape[0], chance.randint(1, 3), shape[1]))
        codes.append(one_way_code(chance, chance.randint(1, 2), chance.randint(2, 4)))
    return codes


def wide_codes(seed, count):
    """Codes of all sizes that the document lets be."""
    chance = random.Random(seed)
    return [random_code(chance, chance.randint(1, 3), chance.randint(1, 6), chance.randint(1, 8)) for _ in range(count)]


def level_codes(seed, count):
    """Codes that lean no farther than two numbers: each state has its lean, or is never come to."""
    chance = random.Random(seed)
    codes = []
    while len(codes) < count:
        k, n = chance.randint(1, 3), chance.randint(1, 6)
        levels = [0] + [chance.randint(-7, 7) for _ in range(chance.randint(0, 7))]
        states = [level_rows(chance, k, n, level, levels) for level in levels]
        if None not in states:
            codes.append((k, n, states))
    return codes


def level_rows(chance, k, n, level, levels):
    near = [state for state, to in enumerate(levels) if abs(to - level) <= n and (to - level - n) % 2 == 0]
    if not near:
        return None
    found = []
    for _ in range(2 ** k):
        state = chance.choice(near)
        ones = (n + levels[state] - level) // 2
        signs = ["1"] * ones + ["0"] * (n - ones)
        chance.shuffle(signs)
        found.append(("".join(signs), state))
    return found


def rows(code, length):
    return itertools.product(range(2 ** code[0]), repeat=length)


def wire_of(code, state, text):
    wire = ""
    for letter in text:
        word, state = code[2][state][letter]
        wire += word
    return wire


def state_behind(code, state, text):
    for letter in text:
        state = code[2][state][letter][1]
    return state


def states_come_to(code):
    found = {0}
    for _ in code[2]:
        found |= {row[1] for state in found for row in code[2][state]}
    return found


def longest_run(wire):
    return max((len(list(group)) for _, group in itertools.groupby(wire)), default=0)
