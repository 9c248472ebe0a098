"""Levels, rings and chains of pieces that must lie above one another."""


def ranked(count, above):
    levels = levels_found(count, above)
    if len(levels) < count:
        return ("ring", ring_without(levels, above))
    return ("levels", [levels[number] for number in range(count)])


# The keys come by rising levels, so each piece behind all that must lie above it; pieces
# of a ring, and those that must lie below one, have no level and are left out.
def levels_found(count, above):
    lowers = [[] for number in range(count)]
    waits = [0] * count
    for upper, lower, column in above:
        lowers[upper].append(lower)
        waits[lower] = waits[lower] + 1
    order = [number for number in range(count) if waits[number] == 0]
    levels = dict([(number, 0) for number in order])
    place = 0
    while place < len(order):
        upper = order[place]
        place = place + 1
        for lower in lowers[upper]:
            waits[lower] = waits[lower] - 1
            # The last upper piece that a piece waits for has the greatest level of them.
            if waits[lower] == 0:
                levels[lower] = levels[upper] + 1
                order.append(lower)
    return levels


# Each piece without a level must lie below another such one, and there are not endlessly
# many: so the way up comes round, and what it goes through again is a ring.
def ring_without(levels, above):
    triple_over = {}
    for triple in above:
        if triple[0] not in levels:
            triple_over[triple[1]] = triple
    number = min(triple_over)
    places = {}
    way = []
    while number not in places:
        places[number] = len(way)
        way.append(triple_over[number])
        number = triple_over[number][0]
    ring = way[places[number]:]
    ring.reverse()
    return ring


def chain_of(pieces, above):
    ends = chain_ends(pieces, above)
    heaviest = max([(ends[number][0], number) for number in ends], default=(0, None))
    numbers = []
    number = heaviest[1]
    while number is not None:
        numbers.append(number)
        number = ends[number][1]
    numbers.reverse()
    return (heaviest[0], numbers)


# For each piece the weight of the heaviest chain that it ends, and the piece ahead of it there, or None.
def chain_ends(pieces, above):
    uppers = [[] for piece in pieces]
    for upper, lower, column in above:
        uppers[lower].append(upper)
    ends = {}
    for number in levels_found(len(pieces), above):
        ahead = max([(ends[upper][0], upper) for upper in uppers[number]], default=(0, None))
        ends[number] = (ahead[0] + pieces[number][3], ahead[1])
    return ends
