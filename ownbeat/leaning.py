"""Leaning: how far a wire may, the papers that show it, and the texts that do."""

from ownbeat.walks import is_whole, reached, state_texts


def lean(code):
    if leaning_loop(code) is not None:
        return None
    return (farthest_lean(code, -1)[0], farthest_lean(code, 1)[0])


def lean_paper(code):
    if leaning_loop(code) is not None:
        return None
    low = farthest_ends(code, 0, -1)
    high = farthest_ends(code, 0, 1)
    return [(state, -low[state][0], high[state][0]) for state in reached(code)]


def lean_shows(code, both, paper):
    if not is_wholes(both, 2) or not is_paper(code, paper):
        return False
    bounds = {}
    for state, low, high in paper:
        bounds[state] = (low, high)
    if not both[0] <= 0 <= both[1] or not bounds[0][0] <= 0 <= bounds[0][1]:
        return False
    return all([keeps_within(code, both, bounds, state) for state in bounds])


def keeps_within(code, both, bounds, state):
    low = bounds[state][0]
    high = bounds[state][1]
    if low > high:
        return False
    # The lowest and the highest lean answer for all between them, which may be too many to walk.
    for row in code[2][state]:
        leans = leans_in(row[0])
        to = bounds[row[1]]
        if low + min(leans) < both[0] or high + max(leans) > both[1]:
            return False
        if low + leans[-1] < to[0] or high + leans[-1] > to[1]:
            return False
    return True


def is_paper(code, paper):
    if not isinstance(paper, list) or not all([is_wholes(row, 3) for row in paper]):
        return False
    return [row[0] for row in paper] == reached(code)


def is_wholes(thing, count):
    return isinstance(thing, tuple) and len(thing) == count and all([is_whole(one) for one in thing])


def lean_texts(code):
    loop = leaning_loop(code)
    if loop is not None:
        return (state_texts(code)[loop[0]], loop[1])
    return (farthest_lean(code, -1)[1], farthest_lean(code, 1)[1])


def leaning_loop(code):
    # A state that can be come to, and letters that lead back to it with another lean.
    for state in reached(code):
        for turn in (1, -1):
            end = farthest_ends(code, state, turn)[state]
            if end[0] > 0:
                return (state, end[1])
    return None


def farthest_lean(code, turn):
    # The lean behind no signs counts too, so nothing is less far than 0.
    most = 0
    text = []
    ends = farthest_ends(code, 0, turn)
    for state in ends:
        for letter, row in enumerate(code[2][state]):
            far = ends[state][0] + max([turn * one for one in leans_in(row[0])])
            if far > most:
                most = far
                text = ends[state][1] + [letter]
    return (turn * most, text)


def farthest_ends(code, start, turn):
    # Of each state how far one may lean in it, and a text that does, from the start on; with the turn
    # -1 to the other side. A loop that leans has one within it that comes to no state twice, so as
    # many letters as there are states show it.
    ends = {start: (0, [])}
    for count in range(len(code[2])):
        ends = ends_behind(code, ends, turn)
    return ends


def ends_behind(code, ends, turn):
    behind = dict(ends)
    for state in ends:
        for letter, row in enumerate(code[2][state]):
            far = ends[state][0] + turn * leans_in(row[0])[-1]
            if row[1] not in behind or far > behind[row[1]][0]:
                behind[row[1]] = (far, ends[state][1] + [letter])
    return behind


def leans_in(word):
    more = 0
    leans = []
    for sign in word:
        more += 1 if sign == "1" else -1
        leans.append(more)
    return leans
