"""Codes written as texts, and read back."""

from ownbeat.codes import is_code
from ownbeat.errors import NoText

FIGURES = "0123456789"


def show(code):
    parts = [str(code[0]), str(code[1])]
    parts.extend([shown_state(rows) for rows in code[2]])
    return " ".join(parts)


def shown_state(rows):
    return ",".join([f"{word}>{to}" for word, to in rows])


def read_code(text):
    if not isinstance(text, str):
        raise NoText("this is no text")
    # Whatever is missing, too much or amiss in the text is so in what is made of its parts.
    code = code_of(text.split(" "))
    if not is_code(code):
        raise NoText("this text writes no code")
    return code


def code_of(parts):
    states = [state_of(part) for part in parts[2:]]
    return tuple([number_of(part) for part in parts[:2]] + [states])


def state_of(part):
    return [row_of(row) for row in part.split(",")]


def row_of(row):
    pieces = row.split(">")
    return tuple(pieces[:-1] + [number_of(pieces[-1])])


def number_of(part):
    # No number of a code has two figures, and -1 is none of its numbers. Not by int, which lets signs,
    # blanks and noughts ahead go by.
    return FIGURES.find(part) if len(part) == 1 else -1
