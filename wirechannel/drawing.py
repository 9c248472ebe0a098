"""Layouts drawn in signs.

Column c stands at sign 2 * c + 1, track t in row 2 * t + 1. So stretches lie in odd rows
alone and uprights at odd signs alone, and a sign comes of what is there of the two.
"""

from wirechannel.pieces import pieces_at


def drawn(layout):
    stretches = stretch_places(layout)
    uprights = upright_places(layout)
    rows = []
    for row in range(2 * layout.count + 1):
        places = [(row, sign) for sign in range(2 * len(layout.channel.top) + 1)]
        rows.append("".join([sign_of(stretches.get(place), uprights.get(place)) for place in places]))
    return "\n".join(rows)


def sign_of(stretch_name, upright_name):
    if stretch_name is None and upright_name is None:
        return " "
    if upright_name is None:
        return "-"
    if stretch_name is None:
        return "|"
    if stretch_name == upright_name:
        return "+"
    return "#"


# The NAME of the net at each place, row and sign, that a stretch goes through. The columns
# of both edges lie just outside the drawing: their places are found here, but not drawn.
def stretch_places(layout):
    names = {}
    for piece, track in zip(layout.pieces, layout.tracks):
        if piece[0] is not None:
            for sign in range(2 * piece[1] + 1, 2 * piece[2] + 2):
                names[(2 * track + 1, sign)] = piece[0]
    return names


# The NAME of the net at each place that an upright goes through.
def upright_places(layout):
    names = {}
    for column in range(len(layout.channel.top)):
        for name in upright_names(layout, column):
            for row in upright_rows(layout, name, column):
                names[(row, 2 * column + 1)] = name
    return names


def upright_names(layout, column):
    names = [layout.channel.top[column], layout.channel.bottom[column]]
    if layout.bent:
        names.extend([name for bend_column, name in layout.channel.bends if bend_column == column])
    return sorted(set([name for name in names if name is not None]))


# A net without a stretch has both pins here, and no piece: its upright goes from edge to edge.
def upright_rows(layout, name, column):
    rows = [2 * layout.tracks[number] + 1 for number in pieces_at(layout.pieces, name, column)]
    if layout.channel.top[column] == name:
        rows.append(0)
    if layout.channel.bottom[column] == name:
        rows.append(2 * layout.count)
    return list(range(min(rows), max(rows) + 1))
