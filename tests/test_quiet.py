"""Points 21 and 22: quiet sets of words, the greatest ones and their papers; and point 2 of them."""

import itertools
import random
import unittest

from ownbeat.quiet import greatest_quiet, is_quiet, quiet_paper
from samples import longest_run

SIZES = [(n, r) for n in range(1, 7) for r in range(1, 9)]


def words_of(n):
    return ["".join(signs) for signs in itertools.product("01", repeat=n)]


def slow_quiet(words, r):
    """By all that a row of the words may end with: the last sign and how many of it stand there."""
    ends, found = [("", 0)], {("", 0)}
    while ends:
        sign, count = ends.pop()
        for word in words:
            row = sign * count + word
            if longest_run(row) > r:
                return False
            last = (row[-1], len(row) - len(row.rstrip(row[-1])))
            if last not in found:
                found.add(last)
                ends.append(last)
    return True


def rows_quiet(words, r):
    """By all rows of so many words that one of them alone comes over r, if it ever does, and one more."""
    if not words:
        return True
    count = r // len(words[0]) + 2
    return all(longest_run("".join(row)) <= r for row in itertools.product(words, repeat=count))


def slow_greatest(n, r):
    """Of all sets of words, those that are quiet; of the greatest ones the first."""
    words = words_of(n)
    # Two words, or one and itself, come over r in a set just where they do so without the others: no
    # run is longer than two words where no word is of one sign.
    fellows = []
    for word in words:
        fellows.append(sum(1 << place for place, other in enumerate(words) if slow_quiet([word, other], r)))
    best = (0, [])
    for chosen in range(1 << len(words)):
        if bin(chosen).count("1") < -best[0]:
            continue
        places = [place for place in range(len(words)) if chosen >> place & 1]
        if all(chosen & ~fellows[place] == 0 for place in places):
            best = min(best, (-len(places), [words[place] for place in places]))
    return best[1]


def runs_at_ends(word, sign):
    return len(word) - len(word.lstrip(sign)), len(word) - len(word.rstrip(sign))


def words_of_paper(n, r, p, q):
    """The words that do as the paper says, by the document's words."""
    found = []
    for word in words_of(n):
        noughts, ones = runs_at_ends(word, "0"), runs_at_ends(word, "1")
        if noughts[0] <= p and ones[0] <= q and noughts[1] <= r - p and ones[1] <= r - q:
            if longest_run(word) <= r and len(set(word)) == 2:
                found.append(word)
    return found


class Quiet(unittest.TestCase):
    def test_by_hand(self):
        for words, r, truth in ((["01"], 1, True), (["01", "10"], 1, False), (["01", "10"], 2, True), (["010"], 1, False), (["010"], 2, True),
                                (["0110", "1001"], 2, True), (["0110", "1001"], 1, False), (["0010", "0100"], 3, False),
                                (["0010", "0100"], 4, True), (["011", "001"], 2, True), (["011", "110"], 3, False), (["011", "110"], 4, True),
                                (["100010"], 2, False), (["100010"], 3, True), (["000001", "100000"], 8, False), (["000001", "111110"], 6, True),
                                (["000001"], 4, False), (["000001"], 5, True), (["100001", "111110"], 5, False), (["100001", "111110"], 6, True)):
            self.assertIs(is_quiet(words, r), truth, (words, r))

    def test_no_words(self):
        for r in range(1, 9):
            self.assertIs(is_quiet([], r), True)

    def test_words_of_one_sign(self):
        for n, r in SIZES:
            for word in ("0" * n, "1" * n):
                self.assertIs(is_quiet([word], r), False)
                self.assertIs(is_quiet(greatest_quiet(n, r) + [word], r), False)
        for r in range(1, 9):
            self.assertIs(is_quiet(["0", "1"], r), False)

    def test_words_more_than_once(self):
        self.assertIs(is_quiet(["01"] * 5, 1), True)
        self.assertIs(is_quiet(["01", "10", "01", "10"], 2), True)
        self.assertIs(is_quiet(["01", "10", "01", "10"], 1), False)
        self.assertIs(is_quiet(["0010"] * 3, 3), True)
        self.assertIs(is_quiet(["0010"] * 3, 2), False)

    def test_the_order_of_the_words_is_free(self):
        for words in itertools.permutations(["0110", "1001", "0101", "0010"]):
            self.assertEqual([is_quiet(list(words), r) for r in (1, 2, 3)], [False, False, True])

    def test_all_short_sets(self):
        told = {True: 0, False: 0}
        for n, r in itertools.product((1, 2, 3), range(1, 9)):
            for size in range(2 ** n + 1):
                for words in itertools.combinations(words_of(n), size):
                    truth = slow_quiet(words, r)
                    self.assertIs(is_quiet(list(words), r), truth, (words, r))
                    told[truth] += 1
        self.assertGreater(told[True], 200)
        self.assertGreater(told[False], 200)

    def test_against_all_rows(self):
        for n, r in ((1, 1), (1, 4), (2, 1), (2, 2), (2, 3), (2, 4), (3, 1), (3, 2), (3, 3), (3, 5)):
            for size in range(4):
                for words in itertools.combinations(words_of(n), size):
                    self.assertIs(is_quiet(list(words), r), rows_quiet(words, r), (words, r))

    def test_sets_of_all_sizes(self):
        chance = random.Random(210)
        told = {True: 0, False: 0}
        for n, r in SIZES:
            for _ in range(30):
                words = chance.sample(words_of(n), min(2 ** n, chance.randint(1, 4)))
                if chance.random() < 0.7:
                    words = [word for word in words if len(set(word)) == 2]
                truth = slow_quiet(words, r)
                self.assertIs(is_quiet(words, r), truth, (words, r))
                told[truth] += 1
        self.assertGreater(told[True], 200)
        self.assertGreater(told[False], 200)

    def test_somewhat_beyond(self):
        self.assertIs(is_quiet(["0000001", "1111110"], 7), True)
        self.assertIs(is_quiet(["0000001", "1111110"], 6), False)
        self.assertIs(is_quiet(["01"], 0), False)
        self.assertIs(is_quiet(["0"], 9), False)
        self.assertIs(is_quiet(["000001", "100000"], 10), True)
        self.assertIs(is_quiet(["000001", "100000"], 9), False)


class Greatest(unittest.TestCase):
    def test_by_hand(self):
        for r in range(1, 9):
            self.assertEqual(greatest_quiet(1, r), [])
            self.assertEqual(greatest_quiet(2, r), ["01"] if r == 1 else ["01", "10"])
        self.assertEqual(greatest_quiet(3, 1), [])
        self.assertEqual(greatest_quiet(3, 2), ["001", "011"])
        self.assertEqual(greatest_quiet(3, 3), ["001", "010", "011", "101"])
        self.assertEqual(greatest_quiet(3, 4), ["001", "010", "011", "100", "101", "110"])
        self.assertEqual(greatest_quiet(4, 2), ["0101", "0110", "1001", "1010"])

    def test_r_as_great_as_two_words_and_less(self):
        for n in range(2, 7):
            for r in range(1, 13):
                told = greatest_quiet(n, r)
                self.assertEqual(len(told) == 2 ** n - 2, r >= 2 * n - 2, (n, r))
                if r == n:
                    self.assertGreater(len(told), 0)

    def test_of_all_sets_the_first_greatest(self):
        for n, r in itertools.product((1, 2, 3), range(1, 9)):
            self.assertEqual(greatest_quiet(n, r), slow_greatest(n, r), (n, r))
        for r in (1, 2, 3, 4, 5, 6):
            self.assertEqual(greatest_quiet(4, r), slow_greatest(4, r), r)

    def test_of_all_papers_the_first_greatest(self):
        ties = 0
        for n, r in SIZES:
            sets = [words_of_paper(n, r, p, q) for p in range(r + 1) for q in range(r + 1)]
            most = max(map(len, sets))
            greatest = [words for words in sets if len(words) == most]
            told = greatest_quiet(n, r)
            self.assertIsInstance(told, list)
            self.assertEqual(told, min(greatest), (n, r))
            ties += max(greatest) != min(greatest)
        self.assertGreater(ties, 10)

    def test_quiet_and_in_order(self):
        for n, r in SIZES:
            told = greatest_quiet(n, r)
            self.assertIs(slow_quiet(told, r), True)
            self.assertIs(is_quiet(told, r), True)
            self.assertEqual(told, sorted(set(told)))
            self.assertTrue(all(len(word) == n and set(word) == {"0", "1"} for word in told))

    def test_none_that_grows_is_greater(self):
        chance = random.Random(211)
        for n, r in SIZES:
            size = len(greatest_quiet(n, r))
            for _ in range(3):
                self.assertLessEqual(len(self.grown(chance, n, r)), size)

    def test_any_quiet_set_lies_in_one_of_a_paper(self):
        chance = random.Random(212)
        for n, r in SIZES:
            words = set(self.grown(chance, n, r))
            sets = [words_of_paper(n, r, p, q) for p in range(r + 1) for q in range(r + 1)]
            self.assertTrue(any(words <= set(one) for one in sets), words)
            for one in sets:
                self.assertIs(is_quiet(one, r), True)

    def grown(self, chance, n, r):
        words = []
        for word in chance.sample(words_of(n), 2 ** n):
            if is_quiet(words + [word], r):
                words.append(word)
        return words


class Papers(unittest.TestCase):
    def test_by_hand(self):
        for r in range(1, 9):
            self.assertEqual(quiet_paper(1, r), (0, 0))
        self.assertEqual(quiet_paper(2, 1), (1, 0))
        self.assertEqual(quiet_paper(2, 2), (1, 1))
        self.assertEqual(quiet_paper(2, 8), (1, 1))
        self.assertEqual(quiet_paper(3, 1), (0, 0))
        self.assertEqual(quiet_paper(3, 2), (2, 0))
        self.assertEqual(quiet_paper(4, 2), (1, 1))

    def test_the_first_by_its_words(self):
        for n, r in SIZES:
            told = quiet_paper(n, r)
            words = greatest_quiet(n, r)
            papers = [(p, q) for p in range(r + 1) for q in range(r + 1) if words_of_paper(n, r, p, q) == words]
            self.assertIsInstance(told, tuple)
            self.assertEqual([type(one) for one in told], [int, int])
            self.assertEqual(told, papers[0], (n, r))

    def test_some_greatest_sets_have_more_than_one(self):
        more = 0
        for n, r in SIZES:
            words = greatest_quiet(n, r)
            more += sum(words_of_paper(n, r, p, q) == words for p in range(r + 1) for q in range(r + 1)) > 1
        self.assertGreater(more, 5)

    def test_somewhat_beyond(self):
        for n, r in ((7, 3), (6, 9), (2, 10), (3, 0)):
            sets = {(p, q): words_of_paper(n, r, p, q) for p in range(r + 1) for q in range(r + 1)}
            paper = min(sets, key=lambda one: (-len(sets[one]), sets[one], one))
            self.assertEqual((greatest_quiet(n, r), quiet_paper(n, r)), (sets[paper], paper))


class NothingKept(unittest.TestCase):
    def test_nothing_is_changed(self):
        words = ["10", "01", "10"]
        for r in (1, 2, 1):
            self.assertIs(is_quiet(words, r), r == 2)
            self.assertEqual(words, ["10", "01", "10"])

    def test_told_lists_are_the_askers_own(self):
        for n, r in SIZES:
            told = greatest_quiet(n, r)
            kept = list(told)
            told.append("x")
            told[0] = "y"
            self.assertEqual(greatest_quiet(n, r), kept)
            self.assertEqual(quiet_paper(n, r), quiet_paper(n, r))


if __name__ == "__main__":
    unittest.main()
