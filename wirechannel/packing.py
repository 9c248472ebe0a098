"""Tracks for pieces: by their levels, row by row, or the better of the two."""

from wirechannel.errors import NoOrder
from wirechannel.pieces import common_of
from wirechannel.ranks import ranked


def count_of(pieces, tracks):
    return max([track + piece[3] for piece, track in zip(pieces, tracks)], default=0)


def by_levels(pieces, levels):
    tracks = [0 for piece in pieces]
    track = 0
    for group in level_groups(pieces, levels):
        for strip in strips_of(pieces, group):
            for number in strip:
                tracks[number] = track
            track = track + pieces[strip[0]][3]
    return tracks


# The numbers of the pieces of each level and width, by rising levels and, within one, the widest first.
def level_groups(pieces, levels):
    groups = {}
    for number in in_order(pieces):
        key = (levels[number], -pieces[number][3])
        groups.setdefault(key, []).append(number)
    return [groups[key] for key in sorted(groups)]


def in_order(pieces):
    keys = sorted([(piece[1], piece[2], number) for number, piece in enumerate(pieces)])
    return [number for first, last, number in keys]


# Each piece on a strip begins behind the end of the one ahead, so the last one ends last.
def strips_of(pieces, group):
    strips = []
    for number in group:
        free = [strip for strip in strips if pieces[strip[-1]][2] < pieces[number][1]]
        if len(free) == 0:
            strips.append([number])
        else:
            free[0].append(number)
    return strips


def bound_of(pieces, levels):
    bound = 0
    for group in level_groups(pieces, levels):
        members = [pieces[number] for number in group]
        bound = bound + members[0][3] * most_in_column(members)
    return bound


# The number grows only in columns in which a piece begins, so it is greatest in one of these.
def most_in_column(pieces):
    return max([len(pieces_in(pieces, begun[1])) for begun in pieces])


def pieces_in(pieces, column):
    return [piece for piece in pieces if piece[1] <= column <= piece[2]]


def by_rows(pieces, above):
    uppers = uppers_of(pieces, above)
    waiting = in_order(pieces)
    tracks = [None for piece in pieces]
    ends = {}
    # Where there are levels, no track is left free ahead of the last one: these are enough.
    for track in range(sum([piece[3] for piece in pieces])):
        taking = [number for number in ends if ends[number] > track]
        for number in waiting:
            if are_behind(uppers[number], ends, track) and may_join(pieces, taking, number):
                tracks[number] = track
                ends[number] = track + pieces[number][3]
                taking.append(number)
        waiting = [number for number in waiting if tracks[number] is None]
    return tracks


# Dicts, as above may tell the same two pieces by many columns.
def uppers_of(pieces, above):
    uppers = [{} for piece in pieces]
    for upper, lower, column in above:
        uppers[lower][upper] = True
    return uppers


# Whether all these pieces have tracks, and end ahead of this one.
def are_behind(uppers, ends, track):
    for upper in uppers:
        if upper not in ends or ends[upper] > track:
            return False
    return True


def may_join(pieces, taking, number):
    return all([may_share(pieces[other], pieces[number]) for other in taking])


# Keeps are all called None, but no two of them are of one net.
def may_share(one, other):
    return common_of(one, other) is None or (one[0] is not None and one[0] == other[0])


def packed(pieces, above):
    leveled = by_levels(pieces, levels_of(pieces, above))
    rowed = by_rows(pieces, above)
    if count_of(pieces, rowed) > count_of(pieces, leveled):
        return leveled
    return rowed


def levels_of(pieces, above):
    rank = ranked(len(pieces), above)
    if rank[0] == "ring":
        raise NoOrder(rank[1])
    return rank[1]
