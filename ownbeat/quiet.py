"""Quiet sets: words of which no row stands still too long, the greatest of them, and their papers."""

from ownbeat.stillness import put_behind, still
from ownbeat.walks import all_signs


def is_quiet(words, r):
    # The rows of the words are the wires of a code of one state that has just these words; its k and
    # its n are not asked.
    longest = still((0, 0, [[(word, 0) for word in words]]))
    return longest is not None and longest <= r


def greatest_quiet(n, r):
    return greatest_with_paper(n, r)[1]


def quiet_paper(n, r):
    return greatest_with_paper(n, r)[0]


def greatest_with_paper(n, r):
    # Any quiet set lies in the set of some paper, which is quiet too: so the greatest ones are such
    # sets themselves. The papers come in order, and one is left only for a better set.
    paper = (0, 0)
    found = words_by(n, r, paper)
    for p in range(r + 1):
        for q in range(r + 1):
            words = words_by(n, r, (p, q))
            if (-len(words), words) < (-len(found), found):
                paper = (p, q)
                found = words
    return (paper, found)


def words_by(n, r, paper):
    return [word for word in all_signs(n) if keeps_to(word, r, paper)]


def keeps_to(word, r, paper):
    for sign, most in zip("01", paper):
        begun = len(word) - len(word.lstrip(sign))
        ended = len(word) - len(word.rstrip(sign))
        if begun == len(word) or begun > most or ended > r - most:
            return False
    return put_behind("", 0, word)[0] <= r
