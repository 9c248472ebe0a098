"""Channels and other things made for tests."""

import contextlib
import random
import signal

from wirechannel.channels import Channel


def made(top, bottom, left=(), right=(), wide=(), bends=(), keeps=()):
    return Channel(list(top), list(bottom), list(left), list(right), list(wide), list(bends), list(keeps))


# Good channels, made without the program's help; the same ones at each call.
def good_channels(count, seed=1):
    chance = random.Random(seed)
    return [good_channel(chance) for turn in range(count)]


def good_channel(chance):
    columns = chance.choice([1, 2, 3, 5, 8, 12, 20, 40])
    free = [(side, column) for side in ("top", "bottom") for column in range(columns)] + ["left", "right"] * 3
    chance.shuffle(free)
    ends = {}
    for name in chance.sample(["a", "aa", "ab", "b", "c", "k", "top", "x", "zzzzzz"], chance.randint(0, 9)):
        wanted = chance.randint(2, 5)
        own = list(dict.fromkeys(free[:wanted]))
        if len(own) >= 2:
            ends[name] = own
            free = free[wanted:]
    pins = {end: name for name, own in ends.items() for end in own if isinstance(end, tuple)}
    sides = {side: sorted([name for name, own in ends.items() if side in own]) for side in ("left", "right")}
    top = [pins.get(("top", column)) for column in range(columns)]
    bottom = [pins.get(("bottom", column)) for column in range(columns)]
    wide = [(name, chance.choice([2, 3])) for name in sorted(ends) if chance.random() < 0.4]
    bends = []
    for column in range(columns):
        names = [name for name, own in ends.items() if may_bend(own, column, columns, {top[column], bottom[column]})]
        if names and chance.random() < 0.7:
            bends.append((column, chance.choice(names)))
    keeps = []
    for turn in range(chance.choice([0, 0, 1, 2, 8])):
        first = chance.randrange(columns)
        keeps.append((first, chance.randrange(first, columns), chance.randint(1, 3)))
    return made(top, bottom, sides["left"], sides["right"], wide, bends, keeps)


def may_bend(own, column, columns, pins):
    held = [-1 if end == "left" else columns if end == "right" else end[1] for end in own]
    touched = ("top", column) in own or ("bottom", column) in own
    return min(held) < column < max(held) and (touched or pins == {None})


# An answer that goes through all ways, or round a ring, would let the tests wait for ever.
@contextlib.contextmanager
def at_once(seconds=10):
    def stop(number, frame):
        raise AssertionError("no answer at once")

    before = signal.signal(signal.SIGALRM, stop)
    signal.alarm(seconds)
    try:
        yield
    finally:
        signal.alarm(0)
        signal.signal(signal.SIGALRM, before)
