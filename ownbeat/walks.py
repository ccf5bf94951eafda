"""What the stages share: kinds of things, rows of signs, wires cut into words, and walks over states."""


def is_whole(thing):
    return isinstance(thing, int) and not isinstance(thing, bool)


def is_letter(k, thing):
    return is_whole(thing) and thing >= 0 and thing.bit_length() <= k


def is_letter_list(k, thing):
    return isinstance(thing, list) and all([is_letter(k, one) for one in thing])


def words_of(wire, n):
    return [wire[place:place + n] for place in range(0, len(wire), n)]


def all_signs(length):
    found = [""]
    for place in range(length):
        found = ["0" + signs for signs in found] + ["1" + signs for signs in found]
    return found


def texts_from(start, steps):
    # Nearest nodes first, so that the text to each of them is a shortest one.
    texts = {start: []}
    queue = [start]
    place = 0
    while place < len(queue):
        node = queue[place]
        place += 1
        for letter, to in steps(node):
            if to not in texts:
                texts[to] = texts[node] + [letter]
                queue.append(to)
    return texts


def state_texts(code):
    return texts_from(0, lambda state: [(letter, row[1]) for letter, row in enumerate(code[2][state])])


def reached(code):
    return sorted(state_texts(code))


def every_state(code):
    return list(range(len(code[2])))


def pair_graph(code, states):
    graph = {}
    for one in states:
        for other in states:
            graph[(one, other)] = pair_steps(code, one, other)
    return graph


def pair_steps(code, one, other):
    # The letters of both that come to one word, with the states behind them.
    steps = []
    for letter, row in enumerate(code[2][one]):
        for another, beside in enumerate(code[2][other]):
            if row[0] == beside[0]:
                steps.append(((letter, another), (row[1], beside[1])))
    return steps


def pairs_on_the_way(code, pair, one, other):
    # The states ahead of each letter of two texts and behind all; None where the wires are not one.
    pairs = [pair]
    for letter, another in zip(one, other):
        row = code[2][pair[0]][letter]
        beside = code[2][pair[1]][another]
        if row[0] != beside[0]:
            return None
        pair = (row[1], beside[1])
        pairs.append(pair)
    return pairs


def layers_of(first, graph):
    # A layer tells of each of its nodes the node ahead and the label that led there. The graph has
    # every node, so more layers than nodes mean a walk that comes back: going on tells nothing new.
    layers = []
    layer = first
    while layer and len(layers) <= len(graph):
        layers.append(layer)
        layer = layer_behind(layer, graph)
    return layers


def layer_behind(layer, graph):
    behind = {}
    for node in layer:
        for label, to in graph[node]:
            if to not in behind:
                behind[to] = (node, label)
    return behind


def comes_back(layers, graph):
    return len(layers) > len(graph)


def longest_walk(layers):
    # Steps (node ahead, label, node), one for each layer.
    node = list(layers[-1])[0]
    walk = []
    for layer in reversed(layers):
        ahead = layer[node]
        walk.append((ahead[0], ahead[1], node))
        node = ahead[0]
    return list(reversed(walk))


def first_return(walk):
    # The places of the two steps that first come to one node.
    places = {}
    for place, step in enumerate(walk):
        if step[2] in places:
            return (places[step[2]], place)
        places[step[2]] = place
    return None
