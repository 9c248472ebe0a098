"""Channels and other things made for tests."""

import contextlib
import copy
import random
import signal
import unittest

from wirechannel.above import above_of
from wirechannel.channels import Channel
from wirechannel.errors import NoOrder, WireError
from wirechannel.layouts import Layout
from wirechannel.packing import by_levels, by_rows
from wirechannel.pieces import pieces_of
from wirechannel.ranks import ranked


def made(top, bottom, left=(), right=(), wide=(), bends=(), keeps=()):
    return Channel(list(top), list(bottom), list(left), list(right), list(wide), list(bends), list(keeps))


# Good channels, made without the program's help; the same ones at each call.
def good_channels(count, seed=1):
    chance = random.Random(seed)
    return [good_channel(chance, chance.choice([1, 2, 3, 5, 8, 12, 20, 40])) for turn in range(count)]


# Good channels with many rings, and many columns without a pin in which nets may be bent.
def tangled_channels(count, seed=1):
    chance = random.Random(seed)
    return [good_channel(chance, chance.randint(5, 15), 2) for turn in range(count)]


def good_channel(chance, columns, apart=1):
    free = [(side, column) for side in ("top", "bottom") for column in range(0, columns, apart)]
    free.extend(["left", "right"] * 3)
    chance.shuffle(free)
    ends = {}
    for name in chance.sample(["a", "aa", "ab", "b", "c", "k", "top", "x", "zzzzzz"], chance.randint(0, 9)):
        wanted = chance.randint(2, 5)
        own = list(dict.fromkeys(free[:wanted]))
        if len(own) >= 2:
            ends[name] = own
            free = free[wanted:]
    pins = {end: name for name, own in ends.items() for end in own if isinstance(end, tuple)}
    sides = {side: sorted([name for name, own in ends.items() if side in own]) for side in ("left", "right")}
    top = [pins.get(("top", column)) for column in range(columns)]
    bottom = [pins.get(("bottom", column)) for column in range(columns)]
    wide = [(name, chance.choice([2, 3])) for name in sorted(ends) if chance.random() < 0.4]
    bends = []
    for column in range(columns):
        names = [name for name, own in ends.items() if may_bend(own, column, columns, {top[column], bottom[column]})]
        if names and chance.random() < 0.7:
            bends.append((column, chance.choice(names)))
    keeps = []
    for turn in range(chance.choice([0, 0, 1, 2, 8])):
        first = chance.randrange(columns)
        keeps.append((first, chance.randrange(first, columns), chance.randint(1, 3)))
    return made(top, bottom, sides["left"], sides["right"], wide, bends, keeps)


def may_bend(own, column, columns, pins):
    held = [-1 if end == "left" else columns if end == "right" else end[1] for end in own]
    touched = ("top", column) in own or ("bottom", column) in own
    return min(held) < column < max(held) and (touched or pins == {None})


def next_of(count):
    return [(number, number + 1, number % 40) for number in range(count - 1)]


def next_two(count):
    return next_of(count) + [(number, number + 2, 0) for number in range(count - 2)]


def ring_over(numbers):
    numbers = list(numbers)
    return [(number, after, place) for place, (number, after) in enumerate(zip(numbers, numbers[1:] + numbers[:1]))]


def shuffled(members, seed=5):
    members = list(members)
    random.Random(seed).shuffle(members)
    return members


# Lists of triples without a ring, some pairs by several columns, in any order; the same ones at each call.
def some_order(count, seed):
    chance = random.Random(seed)
    names = shuffled(range(count), seed)
    triples = []
    for turn in range(chance.randint(0, 2 * count)):
        p, q = sorted([chance.randrange(count), chance.randrange(count)])
        if p < q:
            for column in chance.sample(range(-1, 41), chance.choice([1, 1, 1, 4])):
                triples.append((names[p], names[q], column))
    return shuffled(triples, seed)


# Lists of triples with and without rings, the same ones at each call.
def some_above(count, seed):
    chance = random.Random(seed)
    triples = some_order(count, seed)
    if count and chance.random() < 0.4:
        triples.append((chance.randrange(count), chance.randrange(count), 0))
    return shuffled(triples, seed)


# Pieces in any order, keeps, alike ones and several of one net among them; the same ones at each call.
# Of one NAME all are of one width where that is wanted.
def some_pieces(count, seed, widths=(1, 2, 3), one_width=False):
    chance = random.Random(seed)
    names = [None] + [first + second for first in "abcdef" for second in "abcdefghij"][:chance.choice([2, 8, 60])]
    held = {name: chance.choice(widths) for name in names if name is not None and one_width}
    longest = chance.choice([2, 6, 20, 41])
    pieces = []
    while len(pieces) < count:
        name = chance.choice(names)
        first = chance.randint(-1, 40)
        last = min(40, first + chance.randint(0, longest))
        piece = (name, first, last, held.get(name, chance.choice(widths)))
        pieces.extend([piece] * chance.choice([1, 1, 1, 1, 2]))
    return shuffled(pieces[:count], seed)


# All columns that a piece contains.
def columns_of(piece):
    return set(range(piece[1], piece[2] + 1))


# All tracks that a piece takes.
def tracks_of(piece, track):
    return set(range(track, track + piece[3]))


# Point 11: each triple is one of above, each one's q is the next one's p, and no p comes twice.
def is_ring(ring, above):
    follow = [p for p, q, column in ring[1:] + ring[:1]] == [q for p, q, column in ring]
    once = len({p for p, q, column in ring}) == len(ring) > 0
    return follow and once and all(type(triple) is tuple and triple in above for triple in ring)


def with_tracks(channel, bent, tracks):
    pieces = pieces_of(channel, bent)
    return Layout(channel, bent, pieces, above_of(channel, pieces), tracks)


# Layouts of this channel that are sound: by levels and by rows, straight and bent, with free tracks or without.
def sound_layouts(channel, chance):
    layouts = []
    for bent in (False, True):
        pieces = pieces_of(channel, bent)
        above = above_of(channel, pieces)
        rank, levels = ranked(len(pieces), above)
        if rank == "levels":
            for tracks in (by_levels(pieces, levels), by_rows(pieces, above)):
                layouts.append(Layout(channel, bent, pieces, above, tracks))
                layouts.append(Layout(channel, bent, pieces, above, parted(tracks, chance)))
    return layouts


# The same tracks with some free ones put in: what lay above something lies above it still.
def parted(tracks, chance):
    moved = {}
    more = 0
    for track in sorted(set(tracks)):
        more += chance.choice([0, 0, 1, 4])
        moved[track] = track + more
    return [moved[track] for track in tracks]


NEW_NAMES = ["aaa", "abc", "bb", "cc", "keep", "left", "m", "n", "next", "yy", "z", "zz"]


# A net that may be put into this channel, or be refused: its NAME, pins, sides and width.
def some_net(channel, chance):
    names = {name for name in channel.top + channel.bottom + channel.left + channel.right if name}
    name = chance.choice([name for name in NEW_NAMES if name not in names])
    free = [("top", column) for column, pin in enumerate(channel.top) if pin is None]
    free += [("bottom", column) for column, pin in enumerate(channel.bottom) if pin is None]
    if chance.random() < 0.9:
        bent = [column for column, bent_name in channel.bends]
        free = [pin for pin in free if pin[1] not in bent]
    facing = [pin for pin in free if (channel.top[pin[1]] or channel.bottom[pin[1]])]
    if len(facing) > 1 and chance.random() < 0.7:
        free = facing
    pins = chance.sample(free, min(len(free), chance.choice([0, 1, 2, 2, 2, 3, 5])))
    if chance.random() < 0.1:
        both = [column for side, column in free if side == "top" and ("bottom", column) in free]
        pins = [(side, column) for column in both[:1] for side in ("top", "bottom")]
    left = not pins or chance.random() < 0.2
    return (name, pins, left, chance.random() < 0.2, chance.choice([1, 1, 2, 3]))


PRINTED = [chr(code) for code in range(ord(" "), ord("~") + 1)]
ACROSS = "-+#"
UPRIGHT = "|+#"


# Point 21: whether a text is a drawing, sign by sign.
def is_due(text):
    rows = text.split("\n")
    length = len(rows[0])
    if len(rows) % 2 == 0 or length % 2 == 0 or length < 3 or {len(row) for row in rows} != {length}:
        return False
    places = [(row, sign) for row in range(len(rows)) for sign in range(length)]
    return all(may_stand(rows, row, sign) for row, sign in places)


def may_stand(rows, row, sign):
    mark = rows[row][sign]
    may = {(0, 0): " ", (0, 1): " |", (1, 0): " -", (1, 1): " -|+#"}[row % 2, sign % 2]
    if mark not in may:
        return False
    if mark == "-" and sign % 2 == 0:
        return all(rows[row][beside] in ACROSS for beside in (sign - 1, sign + 1) if 0 <= beside < len(rows[0]))
    if mark == "|" and row % 2 == 0:
        return all(rows[beside][sign] in UPRIGHT for beside in (row - 1, row + 1) if 0 <= beside < len(rows))
    return True


# Point 21: what a drawing joins, step by step from each of its ends.
def due_groups(text):
    rows = text.split("\n")
    ends = due_ends(rows)
    groups = []
    for end, place in ends.items():
        reached = reached_from(rows, place)
        group = sorted(other for other, at in ends.items() if at in reached)
        if group not in groups:
            groups.append(group)
    return sorted(groups)


def due_ends(rows):
    ends = {}
    for sign in range(1, len(rows[0]), 2):
        if rows[0][sign] == "|":
            ends["top", (sign - 1) // 2] = (0, sign, "upright")
        if rows[-1][sign] == "|":
            ends["bottom", (sign - 1) // 2] = (len(rows) - 1, sign, "upright")
    for row in range(1, len(rows), 2):
        if rows[row][0] == "-":
            ends["left", (row - 1) // 2] = (row, 0, "across")
        if rows[row][-1] == "-":
            ends["right", (row - 1) // 2] = (row, len(rows[0]) - 1, "across")
    return ends


def reached_from(rows, place):
    reached = {place}
    waiting = [place]
    while waiting:
        row, sign, way = waiting.pop()
        steps = [(row, sign - 1, way), (row, sign + 1, way)]
        marks = ACROSS
        if way == "upright":
            steps = [(row - 1, sign, way), (row + 1, sign, way)]
            marks = UPRIGHT
        steps = [
            step for step in steps
            if 0 <= step[0] < len(rows) and 0 <= step[1] < len(rows[0]) and rows[step[0]][step[1]] in marks
        ]
        if rows[row][sign] == "+":
            steps.append((row, sign, "across" if way == "upright" else "upright"))
        for step in steps:
            if step not in reached:
                reached.add(step)
                waiting.append(step)
    return reached


# Drawings that no layout has: any signs on the tracks, and between them what may be there.
def any_drawing(chance, tracks, columns):
    rows = [[" "] * (2 * columns + 1) for row in range(2 * tracks + 1)]
    marks = chance.choice([" -|+#", "-|+#", "++#", "##+", " +", "|+", "-+"])
    odd = [(row, sign) for row in range(1, 2 * tracks, 2) for sign in range(1, 2 * columns, 2)]
    for row, sign in odd:
        rows[row][sign] = chance.choice(marks)
    full = chance.choice([0.3, 0.7, 1.0])
    for row in range(2 * tracks + 1):
        for sign in range(2 * columns + 1):
            mark = {(0, 1): "|", (1, 0): "-"}.get((row % 2, sign % 2))
            if mark and chance.random() < full:
                rows[row][sign] = mark
                if not may_stand(rows, row, sign):
                    rows[row][sign] = " "
    return "\n".join("".join(row) for row in rows)


# Point 22, from the lists of the channel alone: the ends of each net, as they are drawn.
def net_groups(layout):
    channel = layout.channel
    groups = {}
    for side in ("top", "bottom"):
        for column, name in enumerate(getattr(channel, side)):
            groups.setdefault(name, []).append((side, column))
    for side, place in (("left", 0), ("right", -1)):
        for name in getattr(channel, side):
            own = sorted((piece[1], track) for piece, track in zip(layout.pieces, layout.tracks) if piece[0] == name)
            groups.setdefault(name, []).append((side, own[place][1]))
    groups.pop(None, None)
    return {name: sorted(group) for name, group in groups.items()}


# All that lies within, in lists, tuples and dicts of its own: so that it can be compared, and stays.
def plain(thing):
    if isinstance(thing, (Channel, Layout)):
        return plain(vars(thing))
    if isinstance(thing, dict):
        return {name: plain(value) for name, value in thing.items()}
    if isinstance(thing, (list, tuple)):
        return type(thing)([plain(member) for member in thing])
    return thing


# Changes all lists that lie within.
def spoil(thing):
    if isinstance(thing, (Channel, Layout)):
        spoil(vars(thing))
    if isinstance(thing, dict):
        spoil(list(thing.values()))
    if isinstance(thing, (list, tuple)):
        for member in thing:
            spoil(member)
    if isinstance(thing, list):
        thing.reverse()
        thing.append("spoiled")


# An answer that goes through all ways, or round a ring, would let the tests wait for ever.
@contextlib.contextmanager
def at_once(seconds=10):
    def stop(number, frame):
        raise AssertionError("no answer at once")

    before = signal.signal(signal.SIGALRM, stop)
    signal.alarm(seconds)
    try:
        yield
    finally:
        signal.alarm(0)
        signal.signal(signal.SIGALRM, before)


class AskingCase(unittest.TestCase):
    def setUp(self):
        self.enterContext(at_once(30))

    # What is handed in stays; asked again the answer is the same, and changing it changes nothing else.
    def asked(self, ask, *given):
        before = plain(given)
        told = ask(*given)
        first = plain(told)
        self.assertEqual(plain(given), before)
        again = ask(*given)
        self.assertEqual(plain(again), first)
        spoil(again)
        self.assertEqual(plain(given), before)
        self.assertEqual(plain(told), first)
        self.assertEqual(plain(ask(*given)), first)
        return told

    # The refusal, of just this class and with just these fields; what is handed in stays.
    def refused(self, refusal, fields, ask, *given):
        before = plain(given)
        with self.assertRaises(WireError) as caught:
            ask(*given)
        self.assertEqual(plain(given), before)
        self.assertIs(type(caught.exception), refusal)
        self.assertIsInstance(caught.exception, ValueError)
        self.assertEqual(sorted(vars(caught.exception)), sorted(fields))
        return caught.exception

    def check_no_order(self, ask, pieces, above, length=None):
        before = copy.deepcopy((pieces, above))
        ring = self.refused(NoOrder, ["ring"], ask, pieces, above).ring
        self.assertEqual((pieces, above), before)
        self.assertIs(type(ring), list)
        self.assertTrue(is_ring(ring, above), ring)
        if length is not None:
            self.assertEqual(len(ring), length)
        return ring
