"""Desks: codes by names, asked by rows of words."""

from ownbeat.codes import bits_of, is_word, letters, sent
from ownbeat.errors import NoName, NoRow
from ownbeat.leaning import lean
from ownbeat.marks import marks
from ownbeat.reading import late, read
from ownbeat.settling import settles
from ownbeat.stillness import still
from ownbeat.texts import read_code
from ownbeat.windows import least_window

SMALL_LETTERS = "abcdefghijklmnopqrstuvwxyz"
LONGEST_NAME = 8
LENGTHS = ("1", "2", "3", "4", "5", "6", "7", "8")
# What stands for no bits and for no wire, and what for no number and no mark.
NOTHING = "-"
NONE = "none"


class Desk:
    def __init__(self):
        self.codes = {}

    def say(self, row):
        words = words_in(row)
        name = words[1]
        if words[0] == "code":
            self.codes[name] = read_code(words[2])
            return "ok"
        if name not in self.codes:
            raise NoName("no code stands by this name")
        if len(words) == 2:
            return answer(self.codes[name], words[0])
        return answer_with(self.codes[name], words[0], words[2])

    def names(self):
        return sorted(self.codes)


def words_in(row):
    if not isinstance(row, str):
        raise NoRow("a row is a text")
    words = row.split(" ")
    if words[0] == "code":
        # The text of a code has blanks of its own.
        words = row.split(" ", 2)
    if not are_words(words):
        raise NoRow("there is no such row")
    return words


def are_words(words):
    if len(words) < 2 or not is_name(words[1]):
        return False
    if len(words) == 2:
        return words[0] in ("late", "still", "settle", "lean", "window")
    return len(words) == 3 and fits(words[0], words[2])


def is_name(word):
    return 1 <= len(word) <= LONGEST_NAME and word.strip(SMALL_LETTERS) == ""


def fits(verb, word):
    if verb == "code":
        return True
    if verb == "marks":
        return word in LENGTHS
    return verb in ("send", "read") and (word == NOTHING or is_signs(word))


def is_signs(word):
    return word != "" and is_word(word, len(word))


def answer(code, verb):
    if verb == "late":
        return number_text(late(code))
    if verb == "still":
        return number_text(still(code))
    if verb == "settle":
        return number_text(settles(code))
    if verb == "lean":
        return numbers_text(lean(code))
    return numbers_text(least_window(code))


def number_text(number):
    return NONE if number is None else str(number)


def numbers_text(numbers):
    return NONE if numbers is None else " ".join([str(number) for number in numbers])


def answer_with(code, verb, word):
    if verb == "marks":
        found = marks(code, int(word))
        return " ".join(found) if found else NONE
    signs = "" if word == NOTHING else word
    if verb == "send":
        told = sent(code, 0, letters(code[0], [int(sign) for sign in signs]))[0]
    else:
        told = "".join([str(bit) for bit in bits_of(code[0], read(code, signs))])
    return told if told != "" else NOTHING
