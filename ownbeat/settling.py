"""Beginning anywhere: where a wire may end, and behind how many words a code settles."""

from ownbeat.codes import is_word
from ownbeat.errors import NoWire
from ownbeat.reading import given_words
from ownbeat.walks import comes_back, every_state, first_return, is_letter_list, is_whole, layers_of, longest_walk
from ownbeat.walks import pair_graph, pairs_on_the_way


def ends(code, wire):
    return states_behind(code, every_state(code), whole_words(code, wire))


def whole_words(code, wire):
    words = given_words(code, wire)
    for at, word in enumerate(words):
        if not is_word(word, code[1]):
            raise NoWire(at)
    return words


def states_behind(code, states, words):
    for word in words:
        states = states_behind_word(code, states, word)
    return states


def states_behind_word(code, states, word):
    behind = {}
    for state in states:
        for row in code[2][state]:
            if row[0] == word:
                behind[row[1]] = True
    return sorted(behind)


def settles(code):
    graph = backward_graph(code)
    layers = layers_of(unlike_pairs(graph), graph)
    return None if comes_back(layers, graph) else len(layers)


def unsettled(code):
    graph = backward_graph(code)
    layers = layers_of(unlike_pairs(graph), graph)
    if not comes_back(layers, graph):
        return None
    walk = longest_walk(layers)
    places = first_return(walk)
    # The walk went backward: it is sent from the pair that it came to twice down to its first one.
    pair = walk[places[1]][2]
    labels = [step[1] for step in reversed(walk[1:places[1] + 1])]
    text = [label[0] for label in labels]
    turn = [label[1] for label in labels]
    return (pair[0], pair[1], text, turn, 0, places[1] - places[0])


def backward_graph(code):
    # From each pair of states those from which it is come to by one word.
    forward = pair_graph(code, every_state(code))
    graph = {}
    for pair in forward:
        graph[pair] = []
    for pair in forward:
        for label, to in forward[pair]:
            graph[to].append((label, pair))
    return graph


def unlike_pairs(graph):
    pairs = {}
    for pair in graph:
        if pair[0] != pair[1]:
            pairs[pair] = (None, None)
    return pairs


def unsettled_shows(code, answer):
    if not has_unsettled_shape(code, answer):
        return False
    count = len(code[2])
    if not 0 <= answer[0] < count or not 0 <= answer[1] < count or len(answer[2]) != len(answer[3]):
        return False
    if not 0 <= answer[4] < answer[5] <= len(answer[2]):
        return False
    pairs = pairs_on_the_way(code, (answer[0], answer[1]), answer[2], answer[3])
    if pairs is None or pairs[-1][0] == pairs[-1][1]:
        return False
    return pairs[answer[4]] == pairs[answer[5]]


def has_unsettled_shape(code, answer):
    if not isinstance(answer, tuple) or len(answer) != 6:
        return False
    if not all([is_whole(answer[place]) for place in (0, 1, 4, 5)]):
        return False
    return is_letter_list(code[0], answer[2]) and is_letter_list(code[0], answer[3])
