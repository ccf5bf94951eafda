"""Marks that no text makes, and frames between them."""

from ownbeat.codes import sent
from ownbeat.errors import NoLetter, NoMark, NoWire
from ownbeat.walks import all_signs, texts_from

LONGEST = 8


def is_mark(code, thing):
    if not isinstance(thing, str) or not 1 <= len(thing) <= LONGEST or thing.strip("01") != "":
        return False
    return thing not in standing(code, len(thing))


def marks(code, length):
    if not 1 <= length <= LONGEST:
        return []
    found = standing(code, length)
    return [signs for signs in all_signs(length) if signs not in found]


def standing(code, length):
    # All that stands in some wire from state 0, of so many signs.
    found = {}
    for tail, state in tails_behind(code, "", length - 1):
        for row in code[2][state]:
            signs = tail + row[0]
            for place in range(len(signs) - length + 1):
                found[signs[place:place + length]] = True
    return found


def tails_behind(code, start, keep):
    # The start with each wire from state 0 behind it, of which the last signs alone are kept, with
    # the state behind: what can be found with so many signs ahead hangs on nothing else.
    return list(texts_from((start, 0), lambda node: tail_steps(code, node, keep)))


def tail_steps(code, node, keep):
    steps = []
    for letter, row in enumerate(code[2][node[1]]):
        signs = node[0] + row[0]
        steps.append((letter, (signs[max(0, len(signs) - keep):], row[1])))
    return steps


def is_clean(code, mark):
    if not is_mark(code, mark):
        return False
    # What is wrong begins behind the first sign of a mark, and ends ahead of the last one of the next.
    for tail, state in tails_behind(code, mark[1:], len(mark) - 1):
        if (tail + mark).find(mark) != len(tail):
            return False
        if any([mark in tail + row[0] for row in code[2][state]]):
            return False
    return True


def framed(code, mark, frames):
    refuse_unclean(code, mark)
    if not isinstance(frames, list):
        raise NoLetter("frames are a list of texts")
    parts = [mark]
    for text in frames:
        parts.append(sent(code, 0, text)[0])
        parts.append(mark)
    return "".join(parts)


def refuse_unclean(code, mark):
    if not is_clean(code, mark):
        raise NoMark("this is no clean mark of the code")


def apart(code, mark, wire):
    refuse_unclean(code, mark)
    if not isinstance(wire, str):
        raise NoWire(0)
    parts = wire.split(mark)
    if len(parts) < 2 or parts[0] != "" or parts[-1] != "":
        raise NoWire(0)
    return parts[1:-1]
