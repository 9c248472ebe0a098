"""Floors: how many tracks are needed at least."""

from wirechannel.packing import levels_of, pieces_in
from wirechannel.ranks import chain_of


# A load grows only in columns in which a piece begins, so the first greatest one is in one of these.
def load_of(pieces):
    weight = 0
    column = None
    for begun in sorted(set([piece[1] for piece in pieces])):
        load = load_at(pieces, begun)
        if load > weight:
            weight = load
            column = begun
    return (weight, column)


def load_at(pieces, column):
    held = pieces_in(pieces, column)
    keeps = [piece[3] for piece in held if piece[0] is None]
    # By its NAME each net is there once: its pieces may share their tracks.
    nets = dict([(piece[0], piece[3]) for piece in held if piece[0] is not None])
    return sum(keeps) + sum(nets.values())


def floor_of(pieces, above):
    # Asked ahead of the chain, which is told only where there are levels.
    levels_of(pieces, above)
    load = load_of(pieces)
    chain = chain_of(pieces, above)
    if load[0] >= chain[0]:
        return ("column", load[0], load[1])
    return ("chain", chain[0], chain[1])
