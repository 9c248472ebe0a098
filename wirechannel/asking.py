"""Questions asked by texts, and answered by texts."""

from wirechannel.errors import NoLayout
from wirechannel.floors import floor_of
from wirechannel.layouts import laid, ring_of
from wirechannel.packing import bound_of, levels_of
from wirechannel.pieces import pieces_of
from wirechannel.piles import drawn_pile, parts_of
from wirechannel.texts import read_channel, words_of


def planned(text):
    # All are read ahead of the first one that is laid: a text that is none goes first.
    channels = [read_channel(part) for part in channel_texts(text)]
    layouts = [laid(channel) for channel in channels]
    return ended([layout_line(layout) for layout in layouts] + [drawn_pile(layouts)])


def channel_texts(text):
    lines = text.split("\n")
    borders = [number for number, line in enumerate(lines) if words_of(line) == ["next"]]
    return ["\n".join(part) for part in parts_of(lines, borders)]


def layout_line(layout):
    form = "bent" if layout.bent else "straight"
    tracks = layout.count
    bound = bound_of(layout.pieces, levels_of(layout.pieces, layout.above))
    floor = floor_of(layout.pieces, layout.above)[1]
    return f"{form} {tracks} bound {bound} floor {floor}"


def ended(lines):
    return "".join([line + "\n" for line in lines])


def ringed(text):
    channel = read_channel(text)
    ring = ring_of(channel)
    if ring is None:
        return ended(["straight"])
    pieces = pieces_of(channel)
    form = "bent" if can_be_laid(channel) else "none"
    return ended([form] + [triple_line(pieces, triple) for triple in ring])


def can_be_laid(channel):
    try:
        laid(channel)
    except NoLayout:
        return False
    return True


def triple_line(pieces, triple):
    upper = piece_word(pieces[triple[0]])
    lower = piece_word(pieces[triple[1]])
    column = triple[2]
    return f"{upper} over {lower} at {column}"


def piece_word(piece):
    if piece[0] is None:
        return "keep"
    return piece[0]
