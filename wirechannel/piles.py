"""Piles: layouts one beneath the other, with a row of signs between two."""

from wirechannel.changing import on_tracks, put_in
from wirechannel.drawing import drawn
from wirechannel.errors import BadDrawing, BadPile
from wirechannel.tracing import grouped, groups_of, traced

BORDER = "="
JOINT = "|"


def checked_pile(layouts):
    widths = [len(layout.channel.top) for layout in layouts]
    if len(set(widths)) != 1:
        raise BadPile("the pile is empty, or its channels have not as many columns")
    return True


def first_rows(layouts):
    checked_pile(layouts)
    rows = [0]
    for layout in layouts[:-1]:
        rows.append(rows[-1] + 2 * layout.count + 2)
    return rows


def drawn_pile(layouts):
    checked_pile(layouts)
    texts = [drawn(layouts[0])]
    for upper, lower in zip(layouts, layouts[1:]):
        texts.append(border_row(pin_joints(upper, lower)))
        texts.append(drawn(lower))
    return "\n".join(texts)


# For each column whether the pins at the border of these two are joined.
def pin_joints(upper, lower):
    return [one is not None and one == other for one, other in zip(upper.channel.bottom, lower.channel.top)]


def border_row(joints):
    return BORDER + "".join([(JOINT if joined else BORDER) + BORDER for joined in joints])


def pile_groups(layouts):
    checked_pile(layouts)
    borders = [pin_joints(upper, lower) for upper, lower in zip(layouts, layouts[1:])]
    return pile_grouped([groups_of(layout) for layout in layouts], borders)


# The groups of all layouts, those with joined pins made one; borders tells the joints of each border.
def pile_grouped(groups, borders):
    ends = []
    for number, layout_groups in enumerate(groups):
        for place, group in enumerate(layout_groups):
            ends.extend([((number, place), (number,) + end) for end in group])
    places = dict([(end, place) for place, end in ends])
    links = []
    for number, joints in enumerate(borders):
        for column in [column for column, joined in enumerate(joints) if joined]:
            links.append((places[(number, "bottom", column)], places[(number + 1, "top", column)]))
    return grouped(ends, links)


def traced_pile(text):
    rows = text.split("\n")
    borders = [number for number, row in enumerate(rows) if row.startswith(BORDER)]
    # Each part must be a drawing: so a border behind this has a row above it and one below.
    groups = [traced("\n".join(part)) for part in parts_of(rows, borders)]
    if not have_borders(rows, borders):
        raise BadDrawing("the text is no pile's drawing")
    return pile_grouped(groups, [row_joints(rows[border]) for border in borders])


# What lies ahead of the first border, between two, and behind the last one.
def parts_of(lines, borders):
    begins = [0] + [border + 1 for border in borders]
    ends = borders + [len(lines)]
    return [lines[begin:end] for begin, end in zip(begins, ends)]


def have_borders(rows, borders):
    if len(set([len(row) for row in rows])) != 1:
        return False
    return all([is_border(rows[border - 1], rows[border], rows[border + 1]) for border in borders])


def is_border(over, row, under):
    joints = row_joints(row)
    if row != border_row(joints):
        return False
    beside = list(zip(joints, row_joints(over), row_joints(under)))
    return all([has_upper and has_lower for joined, has_upper, has_lower in beside if joined])


def row_joints(row):
    return [sign == JOINT for sign in row[1::2]]


def pushed(layouts, k, name, pins, left=False, right=False, width=1):
    checked_pile(layouts)
    if not 0 <= k < len(layouts):
        raise BadPile("the pile has no such layout")
    changed = put_in(layouts[k], name, pins, left, right, width)
    # The others are copied: what is told must not be changed with what was handed in.
    pile = [on_tracks(layout, layout.tracks) for layout in layouts]
    pile[k] = changed
    return pile
