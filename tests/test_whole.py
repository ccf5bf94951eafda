"""Points 1, 2 and 3 over the whole program, and the interface: its names, arguments and kinds."""

import copy
import importlib
import inspect
import random
import unittest

from ownbeat.codes import bits_of, is_code, letters, sent
from ownbeat.desk import Desk
from ownbeat.errors import NoWire
from ownbeat.leaning import lean, lean_paper, lean_shows, lean_texts
from ownbeat.marks import apart, framed, is_clean, is_mark, marks
from ownbeat.quiet import greatest_quiet, is_quiet, quiet_paper
from ownbeat.reading import is_plain, late, never, never_shows, read, read_plain
from ownbeat.settling import ends, settles, unsettled, unsettled_shows
from ownbeat.stillness import still, still_paper, still_shows, still_text
from ownbeat.strewing import gathered, round_of, strewn
from ownbeat.texts import read_code, show
from ownbeat.windows import least_window, read_by, tells
from samples import (ANYWHERE, BALANCED, BIPHASE, BLIND, EIGHT, NAMED, ONE_LATE, SIX, TURNING, level_codes, longest_run, small_codes,
                     wide_codes)

INTERFACE = {
    "codes": {"is_code": "thing", "sent": "code state text", "letters": "k bits", "bits_of": "k text"},
    "reading": {"is_plain": "code", "read_plain": "code wire", "late": "code", "never": "code", "never_shows": "code answer",
                "read": "code wire"},
    "stillness": {"still": "code", "still_paper": "code", "still_shows": "code number paper", "still_text": "code"},
    "leaning": {"lean": "code", "lean_paper": "code", "lean_shows": "code both paper", "lean_texts": "code"},
    "settling": {"ends": "code wire", "settles": "code", "unsettled": "code", "unsettled_shows": "code answer"},
    "windows": {"tells": "code back ahead", "least_window": "code", "read_by": "code back ahead wire"},
    "marks": {"is_mark": "code thing", "marks": "code length", "is_clean": "code mark", "framed": "code mark frames",
              "apart": "code mark wire"},
    "strewing": {"strewn": "taps bits", "gathered": "taps bits", "round_of": "taps"},
    "quiet": {"is_quiet": "words r", "greatest_quiet": "n r", "quiet_paper": "n r"},
    "texts": {"show": "code", "read_code": "text"},
    "desk": {"Desk": ""},
}


def some_codes():
    return NAMED + ANYWHERE + wide_codes(240, 60) + small_codes(241, 30) + level_codes(242, 30)


def random_bits(chance, count):
    return [chance.randrange(2) for _ in range(count)]


def random_text(chance, code, count):
    return [chance.randrange(2 ** code[0]) for _ in range(count)]


def first_clean(code):
    for length in range(1, 9):
        for mark in marks(code, length):
            if is_clean(code, mark):
                return mark
    return None


def leans_of(wire):
    leans = [0]
    for sign in wire:
        leans.append(leans[-1] + (1 if sign == "1" else -1))
    return leans


def lists_in(thing):
    """All lists in a told thing, each as often as it stands there."""
    found = [thing] if isinstance(thing, list) else []
    if isinstance(thing, (list, tuple)):
        for one in thing:
            found += lists_in(one)
    return found


class Interface(unittest.TestCase):
    def test_names_and_arguments(self):
        for file, names in INTERFACE.items():
            module = importlib.import_module("ownbeat." + file)
            for name, arguments in names.items():
                told = inspect.signature(getattr(module, name)).parameters
                self.assertEqual(list(told), arguments.split(), name)

    def test_desks(self):
        self.assertTrue(inspect.isclass(Desk))
        self.assertEqual(list(inspect.signature(Desk().say).parameters), ["row"])
        self.assertEqual(list(inspect.signature(Desk().names).parameters), [])


class There(unittest.TestCase):
    def test_strewn_sent_framed_and_all_the_way_back(self):
        chance = random.Random(243)
        ways = {}
        for code in some_codes():
            mark = first_clean(code)
            if mark is None or late(code) is None:
                continue
            taps = sorted(chance.sample(range(1, 13), chance.randint(1, 6)))
            frames = [random_bits(chance, code[0] * chance.choice((0, 1, 2, 10, 40))) for _ in range(chance.randint(0, 5))]
            texts = [letters(code[0], strewn(taps, bits)) for bits in frames]
            wires = apart(code, mark, framed(code, mark, texts))
            self.assertEqual(wires, [sent(code, 0, text)[0] for text in texts])
            for wire, text, bits in zip(wires, texts, frames):
                self.goes_back(code, taps, wire, text, bits)
                ways["plain" if is_plain(code) else "late"] = True
        self.assertEqual(sorted(ways), ["late", "plain"])

    def goes_back(self, code, taps, wire, text, bits):
        if is_plain(code):
            self.assertEqual(gathered(taps, bits_of(code[0], read_plain(code, wire))), bits)
        told = read(code, wire)
        # What is not yet told are the last letters, no more than the code is late.
        self.assertEqual(told, text[:len(told)])
        self.assertGreaterEqual(len(told), len(text) - late(code))
        self.assertEqual(gathered(taps, bits_of(code[0], told)), bits[:len(told) * code[0]])

    def test_by_a_desk(self):
        chance = random.Random(244)
        for code in (BIPHASE, TURNING, SIX, EIGHT, BALANCED):
            desk = Desk()
            desk.say("code line " + show(code))
            taps = [1, 4, 6]
            for count in (0, 2, 30, 200):
                bits = random_bits(chance, count * code[0])
                row = "".join(map(str, strewn(taps, bits))) or "-"
                wire = desk.say("send line " + row)
                self.assertEqual(desk.say("read line " + wire), row)
                self.assertEqual(gathered(taps, [int(bit) for bit in row if bit != "-"]), bits)

    def test_a_written_code_is_the_same_code(self):
        chance = random.Random(245)
        for code in some_codes():
            again = read_code(show(code))
            self.assertIs(is_code(again), True)
            for tell in (is_plain, late, never, still, still_paper, still_text, lean, lean_paper, lean_texts, settles, unsettled, least_window):
                self.assertEqual(tell(again), tell(code))
            text = random_text(chance, code, 20)
            self.assertEqual(sent(again, 0, text), sent(code, 0, text))

    def test_quiet_words_make_codes_that_stand_still_no_longer(self):
        for n in range(2, 7):
            for r in range(1, 9):
                words = greatest_quiet(n, r)
                for k in (1, 2, 3):
                    if len(words) < 2 ** k:
                        continue
                    code = (k, n, [[(word, 0) for word in words[:2 ** k]]])
                    self.assertIs(is_code(code), True)
                    self.assertIs(is_plain(code), True)
                    self.assertLessEqual(still(code), r)
                    self.assertIs(is_quiet(words[:2 ** k], still(code)), True)
                    self.assertIs(is_quiet(words[:2 ** k], still(code) - 1), False)


class Promise(unittest.TestCase):
    def test_read_as_soon_as_it_can_be_told(self):
        chance = random.Random(246)
        for code in some_codes():
            d = late(code)
            if d is None:
                self.assertIs(never_shows(code, never(code)), True)
                state, one, other, place = never(code)
                for times in range(4):
                    wires = {sent(code, state, text + text[place:] * times)[0] for text in (one, other)}
                    self.assertEqual(len(wires), 1)
                continue
            self.assertIsNone(never(code))
            text = random_text(chance, code, 15)
            for count in range(16):
                told = read(code, sent(code, 0, text[:count])[0])
                self.assertEqual(told, text[:len(told)])
                self.assertGreaterEqual(len(told), count - d)

    def test_stands_still_and_leans_no_farther(self):
        chance = random.Random(247)
        found = {}
        for code in some_codes():
            wires = [sent(code, 0, random_text(chance, code, 60))[0] for _ in range(3)]
            longest, both = still(code), lean(code)
            found[(longest is None, both is None)] = True
            if longest is not None:
                self.assertIs(still_shows(code, longest, still_paper(code)), True)
                self.assertIs(still_shows(code, longest - 1, still_paper(code)), False)
                self.assertLessEqual(max(map(longest_run, wires)), longest)
                self.assertEqual(longest_run(sent(code, 0, still_text(code))[0]), longest)
            if both is not None:
                self.assertIs(lean_shows(code, both, lean_paper(code)), True)
                self.assertIs(lean_shows(code, (both[0] + 1, both[1]), lean_paper(code)), False)
                self.assertIs(lean_shows(code, (both[0], both[1] - 1), lean_paper(code)), False)
                for wire in wires:
                    self.assertTrue(both[0] <= min(leans_of(wire)) and max(leans_of(wire)) <= both[1])
                least, greatest = lean_texts(code)
                self.assertEqual((min(leans_of(sent(code, 0, least)[0])), max(leans_of(sent(code, 0, greatest)[0]))), both)
        # What stands still for ever leans without bound.
        self.assertEqual(sorted(found), [(False, False), (False, True), (True, True)])

    def test_a_settled_reader_is_right(self):
        chance = random.Random(248)
        found = {}
        for code in some_codes():
            m = settles(code)
            if m is None:
                self.assertIs(unsettled_shows(code, unsettled(code)), True)
                one, other, text, turn, start, behind = unsettled(code)
                for times in range(4):
                    both = [row[:start] + row[start:behind] * times + row[behind:] for row in (text, turn)]
                    told = [sent(code, state, row) for state, row in zip((one, other), both)]
                    self.assertEqual(told[0][0], told[1][0])
                    self.assertNotEqual(told[0][1], told[1][1])
                    self.assertGreater(len(ends(code, told[0][0])), 1)
                continue
            found[m] = True
            for state in range(len(code[2])):
                for count in (m, m + 1, m + 7):
                    wire, behind = sent(code, state, random_text(chance, code, count))
                    self.assertEqual(ends(code, wire), [behind])
        self.assertGreater(len(found), 2)

    def test_a_wrong_sign_is_forgotten(self):
        chance = random.Random(249)
        found = 0
        for code in some_codes():
            window = least_window(code)
            if window is None:
                continue
            found += 1
            back, ahead = window
            self.assertIs(tells(code, back, ahead), True)
            text = random_text(chance, code, 24)
            wire = sent(code, chance.randrange(len(code[2])), text)[0]
            self.assertEqual(read_by(code, back, ahead, wire), text[back:24 - ahead])
            at = chance.randrange(len(wire))
            wrong = read_by(code, back, ahead, wire[:at] + "10"[int(wire[at])] + wire[at + 1:])
            for place, letter in enumerate(wrong, start=back):
                if not place - back <= at // code[1] <= place + ahead:
                    self.assertEqual(letter, text[place])
        self.assertGreater(found, 30)

    def test_no_text_makes_a_mark_and_frames_are_found(self):
        chance = random.Random(250)
        found = 0
        for code in some_codes():
            mark = first_clean(code)
            if mark is None:
                continue
            found += 1
            self.assertIs(is_mark(code, mark), True)
            texts = [random_text(chance, code, chance.randint(0, 8)) for _ in range(6)]
            wires = [sent(code, 0, text)[0] for text in texts]
            self.assertTrue(all(mark not in wire for wire in wires))
            self.assertEqual(apart(code, mark, framed(code, mark, texts)), wires)
            with self.assertRaises(NoWire):
                apart(code, mark, "10"[int(mark[0])] + framed(code, mark, texts)[1:])
        self.assertGreater(found, 30)


def asked(code):
    """All that is told of a code and of what stands beside it, by the functions that tell lists."""
    mark = first_clean(code)
    wire = sent(code, 0, [0, 1, 0, 0])[0]
    desk = Desk()
    desk.say("code a " + show(code))
    told = [letters(code[0], [0, 1] * code[0]), bits_of(code[0], [1, 0]), never(code), still_paper(code), still_text(code), lean_paper(code),
            lean_texts(code), ends(code, wire), ends(code, ""), unsettled(code), marks(code, 3), marks(code, 8), strewn([1, 2], [1, 0, 1]), strewn([1], []),
            gathered([1, 2], [1, 0, 1]), gathered([1], []), greatest_quiet(3, 2), greatest_quiet(1, 1), read_code(show(code)), desk.names(), Desk().names()]
    if is_plain(code):
        told += [read_plain(code, wire), read_plain(code, "")]
    if late(code) is not None:
        told += [read(code, wire), read(code, "")]
    if least_window(code) is not None:
        told += [read_by(code, *least_window(code), wire), read_by(code, *least_window(code), "")]
    if mark is not None:
        told += [apart(code, mark, framed(code, mark, [[0], []])), apart(code, mark, mark)]
    return told


class NothingKept(unittest.TestCase):
    def test_no_two_told_lists_are_one(self):
        for code in some_codes():
            handed = copy.deepcopy(code)
            first, again = asked(handed), asked(handed)
            self.assertEqual(first, again)
            lists = lists_in(first) + lists_in(again) + lists_in(handed)
            self.assertEqual(len({id(one) for one in lists}), len(lists), code)
            kept = copy.deepcopy(again)
            for one in lists_in(first):
                one.append(9)
            self.assertEqual(again, kept)
            self.assertEqual(asked(handed), kept)
            self.assertEqual(handed, code)

    def test_numbers_are_no_truths(self):
        for code in (BIPHASE, TURNING, ONE_LATE, BLIND, SIX):
            for number in (late(code), still(code), settles(code), round_of([1, 2])):
                self.assertTrue(number is None or type(number) is int)
            for pair in (lean(code), least_window(code), quiet_paper(4, 2)):
                self.assertTrue(pair is None or [type(one) for one in pair] == [int, int])


if __name__ == "__main__":
    unittest.main()
