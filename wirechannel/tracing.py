"""What a drawing joins, and what a layout does.

Rows and columns of signs are read alike: a strand goes along a line, a stretch along a row
and an upright along a column, and the two are joined where they cross at a `+`.
"""

from wirechannel.errors import BadDrawing
from wirechannel.nets import column_of, ends_of, nets_of
from wirechannel.pieces import pieces_at

STRETCH = "-"
UPRIGHT = "|"
CROSSINGS = "+#"


def traced(text):
    rows = text.split("\n")
    if not is_drawing(rows):
        raise BadDrawing("the text is no drawing")
    columns = turned(rows)
    stretches = strands_of(rows, STRETCH)
    uprights = strands_of(columns, UPRIGHT)
    ends = edge_ends(rows, stretches, STRETCH, ("left", "right"))
    ends.extend(edge_ends(columns, uprights, UPRIGHT, ("top", "bottom")))
    return grouped(ends, joints_of(rows, stretches, uprights))


def is_drawing(rows):
    if not have_form(rows) or not have_signs(rows):
        return False
    stretches_hold = all([holds_on(row, STRETCH) for row in rows])
    return stretches_hold and all([holds_on(column, UPRIGHT) for column in turned(rows)])


def have_form(rows):
    length = len(rows[0])
    is_odd = len(rows) % 2 == 1 and length % 2 == 1
    return is_odd and length >= 3 and all([len(row) == length for row in rows])


def have_signs(rows):
    for number, row in enumerate(rows):
        if not all([sign in signs_at(number, place) for place, sign in enumerate(row)]):
            return False
    return True


def signs_at(row, place):
    signs = " "
    if row % 2 == 1:
        signs = signs + STRETCH
    if place % 2 == 1:
        signs = signs + UPRIGHT
    if row % 2 == 1 and place % 2 == 1:
        signs = signs + CROSSINGS
    return signs


# Whether each of these marks, at an edge or between two tracks or columns, goes on at both sides.
def holds_on(line, mark):
    for place in range(0, len(line), 2):
        around = line[max(place - 1, 0):place + 2]
        if line[place] == mark and not all([sign in mark + CROSSINGS for sign in around]):
            return False
    return True


def turned(rows):
    return [signs_down(rows, place) for place in range(len(rows[0]))]


def signs_down(rows, place):
    return "".join([row[place] for row in rows])


# For each sign of each line the strand that goes through it, or None.
def strands_of(lines, mark):
    return [line_strands(number, line, mark) for number, line in enumerate(lines)]


# A strand is told by its mark, its line and the place at which it begins.
def line_strands(number, line, mark):
    strands = []
    strand = None
    for place, sign in enumerate(line):
        if sign not in mark + CROSSINGS:
            strand = None
        elif strand is None:
            strand = (mark, number, place)
        strands.append(strand)
    return strands


# Pairs of a strand and its end at one of the two edges to which the lines go.
def edge_ends(lines, strands, mark, sides):
    ends = []
    for number, line in enumerate(lines):
        if line[0] == mark:
            ends.append((strands[number][0], (sides[0], number // 2)))
        if line[-1] == mark:
            ends.append((strands[number][-1], (sides[1], number // 2)))
    return ends


def joints_of(rows, stretches, uprights):
    joints = []
    for number, row in enumerate(rows):
        places = [place for place, sign in enumerate(row) if sign == "+"]
        joints.extend([(stretches[number][place], uprights[place][number]) for place in places])
    return joints


# Pairs of a strand and an end of it: the ends in groups, one for all strands that are linked.
def grouped(ends, links):
    firsts = firsts_of(links)
    groups = {}
    for strand, end in ends:
        groups.setdefault(firsts.get(strand, strand), []).append(end)
    return sorted([sorted(group) for group in groups.values()])


# For each strand that is linked one of those it is linked with, the same for them all.
def firsts_of(links):
    beside = {}
    for one, other in links:
        beside.setdefault(one, []).append(other)
        beside.setdefault(other, []).append(one)
    firsts = {}
    for first in beside:
        waiting = [first]
        while len(waiting) > 0:
            strand = waiting.pop()
            if strand not in firsts:
                firsts[strand] = first
                waiting.extend(beside[strand])
    return firsts


def groups_of(layout):
    return sorted([net_group(layout, name) for name in nets_of(layout.channel)])


def net_group(layout, name):
    return sorted([drawn_end(layout, name, end) for end in ends_of(layout.channel, name)])


# A bend lies strictly within its stretch: so just one piece comes to the edge.
def drawn_end(layout, name, end):
    if end[0] in ("top", "bottom"):
        return end
    number = pieces_at(layout.pieces, name, column_of(layout.channel, end))[0]
    return (end[0], layout.tracks[number])
