"""Windows: which ones tell a letter, the least one, and wires read by one."""

from ownbeat.errors import NoWindow
from ownbeat.settling import states_behind, whole_words
from ownbeat.walks import every_state, is_whole, layer_behind, pair_graph

# The most words beside the one that a window tells of.
WIDEST = 6


def tells(code, back, ahead):
    return is_window(back, ahead) and graph_tells(pair_graph(code, every_state(code)), back, ahead)


def is_window(back, ahead):
    return is_whole(back) and is_whole(ahead) and back >= 0 and ahead >= 0


def graph_tells(graph, back, ahead):
    # It tells where no two walks side by side have unlike letters at the place and go on as far.
    pairs = pairs_behind(graph, graph, back)
    pairs = layer_behind(pairs, unlike_steps(graph))
    return not pairs_behind(pairs, graph, ahead)


def pairs_behind(pairs, graph, count):
    for place in range(count):
        pairs = layer_behind(pairs, graph)
    return pairs


def unlike_steps(graph):
    unlike = {}
    for pair in graph:
        unlike[pair] = [step for step in graph[pair] if step[0][0] != step[0][1]]
    return unlike


def least_window(code):
    graph = pair_graph(code, every_state(code))
    for both in range(WIDEST + 1):
        for back in range(both + 1):
            if graph_tells(graph, back, both - back):
                return (back, both - back)
    return None


def read_by(code, back, ahead, wire):
    if not tells(code, back, ahead):
        raise NoWindow("the window does not tell")
    words = whole_words(code, wire)
    width = back + 1 + ahead
    return [letter_by(code, words[place:place + width], back) for place in range(len(words) - width + 1)]


def letter_by(code, words, back):
    starts = states_behind(code, every_state(code), words[:back])
    for letter, states in enumerate(states_by_letter(code, starts, words[back])):
        if states_behind(code, states, words[back + 1:]):
            return letter
    return None


def states_by_letter(code, starts, word):
    by_letter = [[] for letter in range(1 << code[0])]
    for state in starts:
        for letter, row in enumerate(code[2][state]):
            if row[0] == word:
                by_letter[letter].append(row[1])
    return by_letter
