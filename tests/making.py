"""Channels and other things made for tests."""

import contextlib
import copy
import random
import signal
import unittest

from wirechannel.channels import Channel
from wirechannel.errors import NoOrder, WireError


def made(top, bottom, left=(), right=(), wide=(), bends=(), keeps=()):
    return Channel(list(top), list(bottom), list(left), list(right), list(wide), list(bends), list(keeps))


# Good channels, made without the program's help; the same ones at each call.
def good_channels(count, seed=1):
    chance = random.Random(seed)
    return [good_channel(chance, chance.choice([1, 2, 3, 5, 8, 12, 20, 40])) for turn in range(count)]


# Good channels with many rings, and many columns without a pin in which nets may be bent.
def tangled_channels(count, seed=1):
    chance = random.Random(seed)
    return [good_channel(chance, chance.randint(5, 15), 2) for turn in range(count)]


def good_channel(chance, columns, apart=1):
    free = [(side, column) for side in ("top", "bottom") for column in range(0, columns, apart)]
    free.extend(["left", "right"] * 3)
    chance.shuffle(free)
    ends = {}
    for name in chance.sample(["a", "aa", "ab", "b", "c", "k", "top", "x", "zzzzzz"], chance.randint(0, 9)):
        wanted = chance.randint(2, 5)
        own = list(dict.fromkeys(free[:wanted]))
        if len(own) >= 2:
            ends[name] = own
            free = free[wanted:]
    pins = {end: name for name, own in ends.items() for end in own if isinstance(end, tuple)}
    sides = {side: sorted([name for name, own in ends.items() if side in own]) for side in ("left", "right")}
    top = [pins.get(("top", column)) for column in range(columns)]
    bottom = [pins.get(("bottom", column)) for column in range(columns)]
    wide = [(name, chance.choice([2, 3])) for name in sorted(ends) if chance.random() < 0.4]
    bends = []
    for column in range(columns):
        names = [name for name, own in ends.items() if may_bend(own, column, columns, {top[column], bottom[column]})]
        if names and chance.random() < 0.7:
            bends.append((column, chance.choice(names)))
    keeps = []
    for turn in range(chance.choice([0, 0, 1, 2, 8])):
        first = chance.randrange(columns)
        keeps.append((first, chance.randrange(first, columns), chance.randint(1, 3)))
    return made(top, bottom, sides["left"], sides["right"], wide, bends, keeps)


def may_bend(own, column, columns, pins):
    held = [-1 if end == "left" else columns if end == "right" else end[1] for end in own]
    touched = ("top", column) in own or ("bottom", column) in own
    return min(held) < column < max(held) and (touched or pins == {None})


def next_of(count):
    return [(number, number + 1, number % 40) for number in range(count - 1)]


def next_two(count):
    return next_of(count) + [(number, number + 2, 0) for number in range(count - 2)]


def ring_over(numbers):
    numbers = list(numbers)
    return [(number, after, place) for place, (number, after) in enumerate(zip(numbers, numbers[1:] + numbers[:1]))]


def shuffled(members, seed=5):
    members = list(members)
    random.Random(seed).shuffle(members)
    return members


# Lists of triples without a ring, some pairs by several columns, in any order; the same ones at each call.
def some_order(count, seed):
    chance = random.Random(seed)
    names = shuffled(range(count), seed)
    triples = []
    for turn in range(chance.randint(0, 2 * count)):
        p, q = sorted([chance.randrange(count), chance.randrange(count)])
        if p < q:
            for column in chance.sample(range(-1, 41), chance.choice([1, 1, 1, 4])):
                triples.append((names[p], names[q], column))
    return shuffled(triples, seed)


# Lists of triples with and without rings, the same ones at each call.
def some_above(count, seed):
    chance = random.Random(seed)
    triples = some_order(count, seed)
    if count and chance.random() < 0.4:
        triples.append((chance.randrange(count), chance.randrange(count), 0))
    return shuffled(triples, seed)


# Pieces in any order, keeps, alike ones and several of one net among them; the same ones at each call.
# Of one NAME all are of one width where that is wanted.
def some_pieces(count, seed, widths=(1, 2, 3), one_width=False):
    chance = random.Random(seed)
    names = [None] + [first + second for first in "abcdef" for second in "abcdefghij"][:chance.choice([2, 8, 60])]
    held = {name: chance.choice(widths) for name in names if name is not None and one_width}
    longest = chance.choice([2, 6, 20, 41])
    pieces = []
    while len(pieces) < count:
        name = chance.choice(names)
        first = chance.randint(-1, 40)
        last = min(40, first + chance.randint(0, longest))
        piece = (name, first, last, held.get(name, chance.choice(widths)))
        pieces.extend([piece] * chance.choice([1, 1, 1, 1, 2]))
    return shuffled(pieces[:count], seed)


# All columns that a piece contains.
def columns_of(piece):
    return set(range(piece[1], piece[2] + 1))


# All tracks that a piece takes.
def tracks_of(piece, track):
    return set(range(track, track + piece[3]))


# Point 11: each triple is one of above, each one's q is the next one's p, and no p comes twice.
def is_ring(ring, above):
    follow = [p for p, q, column in ring[1:] + ring[:1]] == [q for p, q, column in ring]
    once = len({p for p, q, column in ring}) == len(ring) > 0
    return follow and once and all(type(triple) is tuple and triple in above for triple in ring)


# An answer that goes through all ways, or round a ring, would let the tests wait for ever.
@contextlib.contextmanager
def at_once(seconds=10):
    def stop(number, frame):
        raise AssertionError("no answer at once")

    before = signal.signal(signal.SIGALRM, stop)
    signal.alarm(seconds)
    try:
        yield
    finally:
        signal.alarm(0)
        signal.signal(signal.SIGALRM, before)


class AskingCase(unittest.TestCase):
    def setUp(self):
        self.enterContext(at_once(30))

    # What is handed in stays, and asked again the answer is the same.
    def asked(self, ask, *given):
        before = copy.deepcopy(given)
        told = ask(*given)
        self.assertEqual(given, before)
        self.assertEqual(ask(*given), told)
        return told

    # The refusal, of just this class and with just these fields.
    def refused(self, refusal, fields, ask, *given):
        with self.assertRaises(WireError) as caught:
            ask(*given)
        self.assertIs(type(caught.exception), refusal)
        self.assertIsInstance(caught.exception, ValueError)
        self.assertEqual(sorted(vars(caught.exception)), sorted(fields))
        return caught.exception

    def check_no_order(self, ask, pieces, above, length=None):
        before = copy.deepcopy((pieces, above))
        ring = self.refused(NoOrder, ["ring"], ask, pieces, above).ring
        self.assertEqual((pieces, above), before)
        self.assertIs(type(ring), list)
        self.assertTrue(is_ring(ring, above), ring)
        if length is not None:
            self.assertEqual(len(ring), length)
        return ring
