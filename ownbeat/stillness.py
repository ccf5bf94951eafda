"""Standing still: how long a wire may, the papers that show it, and the texts that do."""

from ownbeat.walks import comes_back, first_return, is_whole, layers_of, longest_walk, reached, state_texts, texts_from

SIGNS = ("0", "1")


def still(code):
    if standing_loop(code) is not None:
        return None
    return greatest_peak(code, greatest_runs(code))


def still_paper(code):
    if standing_loop(code) is not None:
        return None
    runs = greatest_runs(code)
    return [(key[0], key[1], runs[key]) for key in paper_keys(code)]


def still_shows(code, number, paper):
    if not is_whole(number) or not is_paper(code, paper):
        return False
    runs = {}
    for state, sign, most in paper:
        runs[(state, sign)] = most
    return greatest_peak(code, runs) <= number and not runs_over(code, runs)


def still_text(code):
    loop = standing_loop(code)
    if loop is not None:
        return (state_texts(code)[loop[0]], loop[1])
    number = greatest_peak(code, greatest_runs(code))
    texts = texts_from((0, "0", 0), lambda node: run_steps(code, node))
    for node in texts:
        for letter, row in enumerate(code[2][node[0]]):
            if put_behind(node[1], node[2], row[0])[0] == number:
                return texts[node] + [letter]
    return None


def run_steps(code, node):
    steps = []
    for letter, row in enumerate(code[2][node[0]]):
        run = put_behind(node[1], node[2], row[0])
        steps.append((letter, (row[1], run[1], run[2])))
    return steps


def put_behind(sign, count, word):
    # Told are the most alike anywhere, the last sign, and how many of it stand at the end. It is
    # counted and not written out, for the count of a paper may be greater than any text is long.
    peak = count
    for one in word:
        count = count + 1 if one == sign else 1
        sign = one
        peak = max(peak, count)
    return (peak, sign, count)


def paper_keys(code):
    keys = []
    for state in reached(code):
        for sign in SIGNS:
            keys.append((state, sign))
    return keys


def greatest_peak(code, runs):
    peak = 0
    for state, sign in runs:
        for row in code[2][state]:
            peak = max(peak, put_behind(sign, runs[(state, sign)], row[0])[0])
    return peak


def runs_over(code, runs):
    # The runs that come out greater at a word's end than they are told, by state and sign.
    over = {}
    for state, sign in runs:
        for row in code[2][state]:
            run = put_behind(sign, runs[(state, sign)], row[0])
            key = (row[1], run[1])
            if run[2] > over.get(key, runs[key]):
                over[key] = run[2]
    return over


def greatest_runs(code):
    # This ends only where there is no standing loop.
    runs = {}
    for key in paper_keys(code):
        runs[key] = 0
    over = runs_over(code, runs)
    while over:
        runs.update(over)
        over = runs_over(code, runs)
    return runs


def is_paper(code, paper):
    if not isinstance(paper, list) or not all([is_paper_row(row) for row in paper]):
        return False
    return [(row[0], row[1]) for row in paper] == paper_keys(code)


def is_paper_row(row):
    if not isinstance(row, tuple) or len(row) != 3:
        return False
    return is_whole(row[0]) and isinstance(row[1], str) and is_whole(row[2]) and row[2] >= 0


def standing_loop(code):
    # A state that can be come to, and letters that lead back to it by words of one sign alone.
    states = reached(code)
    for sign in SIGNS:
        graph = {}
        for state in states:
            graph[state] = standing_steps(code, state, sign)
        first = {}
        for state in states:
            first[state] = (None, None)
        layers = layers_of(first, graph)
        if comes_back(layers, graph):
            return loop_of(longest_walk(layers))
    return None


def standing_steps(code, state, sign):
    return [(letter, row[1]) for letter, row in enumerate(code[2][state]) if row[0].strip(sign) == ""]


def loop_of(walk):
    places = first_return(walk)
    return (walk[places[0]][2], [step[1] for step in walk[places[0] + 1:places[1] + 1]])
