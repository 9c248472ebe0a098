"""Layouts: a channel's pieces with their tracks, and what may be wrong with tracks."""

from wirechannel.above import above_of
from wirechannel.channels import Channel
from wirechannel.checking import checked_channel
from wirechannel.errors import NoLayout, NoOrder
from wirechannel.packing import count_of, may_share, packed
from wirechannel.pieces import common_of, pieces_of
from wirechannel.ranks import ranked


class Layout:
    # The lists are copied, so that changing a layout changes none that it was made of.
    def __init__(self, channel, bent, pieces, above, tracks):
        self.channel = channel
        self.bent = bent
        self.pieces = list(pieces)
        self.above = list(above)
        self.tracks = list(tracks)
        self.count = count_of(pieces, tracks)


def fault_of(pieces, above, tracks):
    fault = track_fault(tracks)
    if fault is None:
        fault = meet_fault(pieces, tracks)
    if fault is None:
        fault = order_fault(pieces, above, tracks)
    return fault


def track_fault(tracks):
    for number, track in enumerate(tracks):
        if track < 0:
            return ("track", number)
    return None


def meet_fault(pieces, tracks):
    for one in range(len(pieces)):
        for other in range(one + 1, len(pieces)):
            if share_track(pieces, tracks, one, other) and not may_share(pieces[one], pieces[other]):
                return ("meet", one, other, common_of(pieces[one], pieces[other]))
    return None


def share_track(pieces, tracks, one, other):
    return not is_over(pieces, tracks, one, other) and not is_over(pieces, tracks, other, one)


def is_over(pieces, tracks, upper, lower):
    return tracks[upper] + pieces[upper][3] <= tracks[lower]


def order_fault(pieces, above, tracks):
    for upper, lower, column in above:
        if not is_over(pieces, tracks, upper, lower):
            return ("order", upper, lower, column)
    return None


def laid(channel):
    # ring_of refuses as the check does, so what comes behind it is a good channel.
    bent = ring_of(channel) is not None
    pieces = pieces_of(channel, bent)
    above = above_of(channel, pieces)
    try:
        tracks = packed(pieces, above)
    except NoOrder as refusal:
        raise NoLayout(pieces, refusal.ring) from None
    return Layout(copied(channel), bent, pieces, above, tracks)


def ring_of(channel):
    checked_channel(channel)
    pieces = pieces_of(channel)
    rank = ranked(len(pieces), above_of(channel, pieces))
    if rank[0] == "ring":
        return rank[1]
    return None


def copied(channel):
    return Channel(
        channel.top, channel.bottom, channel.left, channel.right, channel.wide, channel.bends, channel.keeps
    )
