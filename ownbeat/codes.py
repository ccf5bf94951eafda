"""Codes: what one is, what is sent by it, and letters made of bits and back."""

from ownbeat.errors import NoLetter
from ownbeat.walks import is_letter_list, is_whole


def is_code(thing):
    if not isinstance(thing, tuple) or len(thing) != 3:
        return False
    k = thing[0]
    n = thing[1]
    states = thing[2]
    if not is_within(k, 1, 3) or not is_within(n, 1, 6) or not isinstance(states, list):
        return False
    if not is_within(len(states), 1, 8):
        return False
    return all([is_state(rows, k, n, len(states)) for rows in states])


def is_within(thing, least, greatest):
    return is_whole(thing) and least <= thing <= greatest


def is_state(rows, k, n, count):
    if not isinstance(rows, list) or len(rows) != 1 << k:
        return False
    return all([is_row(row, n, count) for row in rows])


def is_row(row, n, count):
    if not isinstance(row, tuple) or len(row) != 2:
        return False
    return is_word(row[0], n) and is_within(row[1], 0, count - 1)


def is_word(thing, n):
    return isinstance(thing, str) and len(thing) == n and thing.strip("01") == ""


def sent(code, state, text):
    if not is_letter_list(code[0], text):
        raise NoLetter("a text is a list of letters")
    words = []
    for letter in text:
        row = code[2][state][letter]
        words.append(row[0])
        state = row[1]
    return ("".join(words), state)


def letters(k, bits):
    if not isinstance(bits, list) or not all([is_within(bit, 0, 1) for bit in bits]):
        raise NoLetter("bits are a list of 0 and 1")
    if not bits:
        return []
    # No letter has fewer bits than one, so no such k divides a list that has some.
    if k < 1 or len(bits) % k != 0:
        raise NoLetter("the bits are not of whole letters")
    return [letter_of(bits[place:place + k]) for place in range(0, len(bits), k)]


def letter_of(bits):
    letter = 0
    for bit in bits:
        letter = 2 * letter + bit
    return letter


def bits_of(k, text):
    if not is_letter_list(k, text):
        raise NoLetter("a text is a list of letters")
    bits = []
    for letter in text:
        bits.extend([(letter >> place) & 1 for place in range(k - 1, -1, -1)])
    return bits
