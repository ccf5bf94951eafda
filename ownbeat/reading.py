"""Reading back: at once, late, or never."""

from ownbeat.errors import NoCode, NoWire
from ownbeat.walks import comes_back, first_return, is_letter_list, is_whole, layers_of, longest_walk
from ownbeat.walks import pair_graph, pair_steps, pairs_on_the_way, reached, words_of


def is_plain(code):
    return all([has_unlike_words(code[2][state]) for state in reached(code)])


def has_unlike_words(rows):
    return len(set([row[0] for row in rows])) == len(rows)


def read_plain(code, wire):
    if not is_plain(code):
        raise NoCode("the code is not plain")
    text = []
    state = 0
    for at, word in enumerate(given_words(code, wire)):
        words = [row[0] for row in code[2][state]]
        if word not in words:
            raise NoWire(at)
        letter = words.index(word)
        text.append(letter)
        state = code[2][state][letter][1]
    return text


def given_words(code, wire):
    if not isinstance(wire, str):
        raise NoWire(0)
    return words_of(wire, code[1])


def late(code):
    graph = pair_graph(code, reached(code))
    layers = layers_of(first_pairs(code), graph)
    return None if comes_back(layers, graph) else len(layers)


def never(code):
    graph = pair_graph(code, reached(code))
    layers = layers_of(first_pairs(code), graph)
    if not comes_back(layers, graph):
        return None
    walk = longest_walk(layers)
    places = first_return(walk)
    labels = [step[1] for step in walk[:places[1] + 1]]
    one = [label[0] for label in labels]
    other = [label[1] for label in labels]
    # A step's node is that behind its letters, so the way round begins one place farther on.
    return (walk[0][0], one, other, places[0] + 1)


def first_pairs(code):
    pairs = {}
    for state in reached(code):
        for label, pair in pair_steps(code, state, state):
            if label[0] != label[1] and pair not in pairs:
                pairs[pair] = (state, label)
    return pairs


def never_shows(code, answer):
    if not has_never_shape(code, answer):
        return False
    state = answer[0]
    one = answer[1]
    other = answer[2]
    if state not in reached(code) or len(one) != len(other):
        return False
    if not 0 <= answer[3] < len(one) or one[0] == other[0]:
        return False
    pairs = pairs_on_the_way(code, (state, state), one, other)
    return pairs is not None and pairs[answer[3]] == pairs[-1]


def has_never_shape(code, answer):
    if not isinstance(answer, tuple) or len(answer) != 4:
        return False
    if not is_whole(answer[0]) or not is_whole(answer[3]):
        return False
    return is_letter_list(code[0], answer[1]) and is_letter_list(code[0], answer[2])


def read(code, wire):
    if late(code) is None:
        raise NoCode("some texts are never told apart")
    certain = []
    # All that may have been sent: the state behind it, and its letters that are not yet certain.
    # Two of them in one state would never be told apart, so these stay few.
    guesses = [(0, [])]
    for at, word in enumerate(given_words(code, wire)):
        guesses = guesses_behind(code, guesses, word)
        if not guesses:
            raise NoWire(at)
        count = shared_count([tail for state, tail in guesses])
        certain.extend(guesses[0][1][:count])
        guesses = [(state, tail[count:]) for state, tail in guesses]
    return certain


def guesses_behind(code, guesses, word):
    behind = []
    for state, tail in guesses:
        for letter, row in enumerate(code[2][state]):
            # The last word may be cut, and then any word goes that begins with it.
            if row[0].startswith(word):
                behind.append((row[1], tail + [letter]))
    return behind


def shared_count(tails):
    count = 0
    while count < len(tails[0]) and len(set([tail[count] for tail in tails])) == 1:
        count += 1
    return count
