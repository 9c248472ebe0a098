"""Pieces: the stretches of the nets, whole or cut at their bends, and the keeps."""

from wirechannel.nets import nets_of, stretch_of, width_of


def pieces_of(channel, bent=False):
    pieces = [(None, first, last, tracks) for first, last, tracks in channel.keeps]
    for name in nets_of(channel):
        pieces.extend(net_pieces(channel, name, bent))
    return pieces


def net_pieces(channel, name, bent):
    stretch = stretch_of(channel, name)
    if stretch is None:
        return []
    cuts = bend_columns(channel, name) if bent else []
    borders = [stretch[0]] + cuts + [stretch[1]]
    width = width_of(channel, name)
    return [(name, first, last, width) for first, last in zip(borders, borders[1:])]


def bend_columns(channel, name):
    return [column for column, bent_name in channel.bends if bent_name == name]


def common_of(one, other):
    column = max(one[1], other[1])
    if column > min(one[2], other[2]):
        return None
    return column


def pieces_at(pieces, name, column):
    return [number for number, piece in enumerate(pieces) if piece[0] == name and piece[1] <= column <= piece[2]]
