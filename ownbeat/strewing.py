"""Strewing: each bit turned by those ahead of it, gathered back, and the round of taps."""


def strewn(taps, bits):
    row = []
    for place, bit in enumerate(bits):
        row.append((bit + ones_ahead(taps, row, place)) % 2)
    return row


def gathered(taps, bits):
    return [(bit + ones_ahead(taps, bits, place)) % 2 for place, bit in enumerate(bits)]


def ones_ahead(taps, row, place):
    # None stand ahead of the first bit, but an index below 0 would count from the row's end.
    return sum([row[place - tap] for tap in taps if 1 <= tap <= place])


def round_of(taps):
    # What is strewn next hangs on nothing but the last bits, as many as the greatest tap tells.
    greatest = max(taps)
    first = [0] * (greatest - 1) + [1]
    last = step_behind(taps, first)
    steps = 1
    while last != first:
        last = step_behind(taps, last)
        steps += 1
    return steps


def step_behind(taps, last):
    return last[1:] + [ones_ahead(taps, last, len(last)) % 2]
