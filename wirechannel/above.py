"""Which piece must lie above which, and because of which column."""

from wirechannel.pieces import common_of, pieces_at


def above_of(channel, pieces):
    return sorted(pin_triples(channel, pieces) + keep_triples(pieces))


def pin_triples(channel, pieces):
    triples = []
    for column in range(len(channel.top)):
        upper_name = channel.top[column]
        lower_name = channel.bottom[column]
        # The NAME None is that of the keeps' pieces: a column without a pin must not find them.
        if upper_name is not None and lower_name is not None and upper_name != lower_name:
            lowers = pieces_at(pieces, lower_name, column)
            for upper in pieces_at(pieces, upper_name, column):
                triples.extend([(upper, lower, column) for lower in lowers])
    return triples


def keep_triples(pieces):
    triples = []
    for upper, keep in enumerate(pieces):
        if keep[0] is None:
            triples.extend([(upper, lower, column) for lower, column in beneath_keep(keep, pieces)])
    return triples


def beneath_keep(keep, pieces):
    commons = [(number, common_of(keep, piece)) for number, piece in enumerate(pieces) if piece[0] is not None]
    return [(number, column) for number, column in commons if column is not None]
