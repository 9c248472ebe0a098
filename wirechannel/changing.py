"""Wires put in and taken out, so that only what must moves."""

from wirechannel.above import above_of
from wirechannel.checking import checked_channel
from wirechannel.errors import NoLayout, NoNet, PinTaken, Taken
from wirechannel.layouts import Layout, copied, is_over, share_track
from wirechannel.nets import ends_of
from wirechannel.pieces import common_of, pieces_of
from wirechannel.ranks import ranked


def put_in(layout, name, pins, left=False, right=False, width=1):
    if len(ends_of(layout.channel, name)) > 0:
        raise Taken(name)
    refuse_pins(layout.channel, pins)
    channel = channel_with(layout.channel, name, pins, left, right, width)
    checked_channel(channel)
    pieces = pieces_of(channel, layout.bent)
    above = above_of(channel, pieces)
    refuse_ring(pieces, above)
    tracks = list(layout.tracks)
    # A net that was not there is bent nowhere: it has one piece, or none.
    for number, piece in enumerate(pieces):
        if piece[0] == name:
            tracks = tracks_with(pieces, above, number, layout.tracks)
    return Layout(channel, layout.bent, pieces, above, tracks)


def refuse_pins(channel, pins):
    for place, pin in enumerate(pins):
        if not is_free(channel, pin) or pin in pins[:place]:
            raise PinTaken(pin)


def is_free(channel, pin):
    row = row_at(channel, pin[0])
    return 0 <= pin[1] < len(row) and row[pin[1]] is None


def row_at(channel, side):
    if side == "top":
        return channel.top
    return channel.bottom


def channel_with(channel, name, pins, left, right, width):
    changed = copied(channel)
    for side, column in pins:
        row = row_at(changed, side)
        row[column] = name
    if left:
        changed.left = sorted(changed.left + [name])
    if right:
        changed.right = sorted(changed.right + [name])
    if width > 1:
        changed.wide = sorted(changed.wide + [(name, width)])
    return changed


def refuse_ring(pieces, above):
    rank = ranked(len(pieces), above)
    if rank[0] == "ring":
        raise NoLayout(pieces, rank[1])


# The tracks of all pieces; given are those of all but the new one, which is told by its number.
def tracks_with(pieces, above, new, given):
    tracks = given[:new] + [0] + given[new:]
    uppers = [upper for upper, lower, column in above if lower == new]
    first = max([end_of(pieces, tracks, upper) for upper in uppers], default=0)
    free = free_track(pieces, above, new, tracks, first)
    if free is None:
        return parted_tracks(pieces, above, new, tracks, first)
    tracks[new] = free
    return tracks


def end_of(pieces, tracks, number):
    return tracks[number] + pieces[number][3]


# The first track, from this one on, that lets the new piece in with nothing moved, or None.
def free_track(pieces, above, new, tracks, first):
    meeting = [number for number in others_of(pieces, new) if common_of(pieces[number], pieces[new]) is not None]
    lowers = [lower for upper, lower, column in above if upper == new]
    for track in stops_from(pieces, tracks, meeting, first):
        tried = tracks[:new] + [track] + tracks[new + 1:]
        is_clear = not any([share_track(pieces, tried, new, number) for number in meeting])
        if is_clear and all([is_over(pieces, tried, new, lower) for lower in lowers]):
            return track
    return None


def others_of(pieces, new):
    return [number for number in range(len(pieces)) if number != new]


# This track, and all later ones at which one of these pieces has ended. The first track that
# they don't hinder is one of those: what hindered the track ahead of it has ended there.
def stops_from(pieces, tracks, numbers, first):
    ends = [end_of(pieces, tracks, number) for number in numbers]
    return [first] + sorted(set([end for end in ends if end > first]))


def parted_tracks(pieces, above, new, tracks, first):
    parting = parting_track(pieces, new, tracks, first)
    belows = belows_of(above, new)
    least = min([tracks[number] for number in belows] + [parting])
    step = pieces[new][3] + parting - least
    moved = []
    for number, track in enumerate(tracks):
        moves = number in belows or track >= parting
        moved.append(track + step if moves else track)
    moved[new] = parting
    return moved


# The first track, from this one on, that begins within no piece; behind them all there is one.
def parting_track(pieces, new, tracks, first):
    others = others_of(pieces, new)
    stops = stops_from(pieces, tracks, others, first)
    return [stop for stop in stops if not is_within_one(pieces, tracks, others, stop)][0]


def is_within_one(pieces, tracks, numbers, stop):
    return any([tracks[number] < stop < end_of(pieces, tracks, number) for number in numbers])


# All pieces that must lie below this one, or below such a piece, and so on: a dict of True.
def belows_of(above, number):
    belows = {}
    waiting = [number]
    while len(waiting) > 0:
        reached = waiting.pop()
        for upper, lower, column in above:
            if upper == reached and lower not in belows:
                belows[lower] = True
                waiting.append(lower)
    return belows


def take_out(layout, name):
    if len(ends_of(layout.channel, name)) == 0:
        raise NoNet(name)
    channel = channel_without(layout.channel, name)
    pieces = pieces_of(channel, layout.bent)
    tracks = [track for piece, track in zip(layout.pieces, layout.tracks) if piece[0] != name]
    return Layout(channel, layout.bent, pieces, above_of(channel, pieces), tracks)


def channel_without(channel, name):
    changed = copied(channel)
    changed.top = [None if pin == name else pin for pin in channel.top]
    changed.bottom = [None if pin == name else pin for pin in channel.bottom]
    changed.left = [net for net in channel.left if net != name]
    changed.right = [net for net in channel.right if net != name]
    changed.wide = [pair for pair in channel.wide if pair[0] != name]
    changed.bends = [pair for pair in channel.bends if pair[1] != name]
    return changed


def closed(layout):
    tracks = list(layout.tracks)
    free = 0
    end = 0
    for track, number in sorted([(track, number) for number, track in enumerate(layout.tracks)]):
        free = free + max(track - end, 0)
        end = max(end, end_of(layout.pieces, layout.tracks, number))
        tracks[number] = track - free
    return on_tracks(layout, tracks)


# The same layout on these tracks: one of its own, with nothing that it shares with the given one.
def on_tracks(layout, tracks):
    return Layout(copied(layout.channel), layout.bent, layout.pieces, layout.above, tracks)


def moves_of(before, after):
    news = dict(zip(told_apart(after.pieces), after.tracks))
    moves = []
    for apart, old in zip(told_apart(before.pieces), before.tracks):
        if news.get(apart, old) != old:
            moves.append((apart[0], old, news[apart]))
    return moves


# Each piece with how many ahead of it are alike.
def told_apart(pieces):
    return [(piece, pieces[:number].count(piece)) for number, piece in enumerate(pieces)]
