import itertools
import unittest

from making import (
    AskingCase, columns_of, good_channels, next_two, ring_over, shuffled, some_order, some_pieces,
)
from wirechannel.above import above_of
from wirechannel.floors import floor_of, load_of
from wirechannel.layouts import fault_of
from wirechannel.packing import count_of, packed
from wirechannel.pieces import pieces_of
from wirechannel.ranks import chain_of, ranked


# Point 17, word by word: the load of each column.
def due_load(pieces):
    loads = {}
    for column in range(-1, 41):
        held = [piece for piece in pieces if column in columns_of(piece)]
        nets = {(name, width) for name, first, last, width in held if name is not None}
        loads[column] = sum(width for name, width in nets) + sum(piece[3] for piece in held if piece[0] is None)
    greatest = max(loads.values())
    if not pieces:
        return (0, None)
    return (greatest, min(column for column, load in loads.items() if load == greatest))


class LoadTest(AskingCase):
    def check_load(self, pieces, due):
        told = self.asked(load_of, pieces)
        self.assertIs(type(told), tuple)
        self.assertEqual(told, due)
        self.assertEqual(due_load(pieces), due)

    def test_no_pieces(self):
        self.check_load([], (0, None))

    def test_one_piece(self):
        for width in (1, 2, 3):
            self.check_load([("a", 3, 5, width)], (width, 3))
            self.check_load([(None, 3, 3, width)], (width, 3))
            self.check_load([("a", -1, 40, width)], (width, -1))
            self.check_load([("a", 40, 40, width)], (width, 40))

    def test_each_net_once_though_several_of_its_pieces_are_there(self):
        self.check_load([("a", 0, 3, 2), ("a", 3, 6, 2)], (2, 0))
        self.check_load([("a", 0, 3, 1)] * 5, (1, 0))
        self.check_load([("a", 0, 3, 2), ("a", 3, 6, 2), ("b", 5, 9, 1)], (3, 5))
        self.check_load([("a", 0, 3, 2), ("b", 2, 4, 1), ("a", 1, 6, 2), ("b", 4, 5, 1)], (3, 2))

    def test_each_keep_by_itself(self):
        self.check_load([(None, 0, 3, 2), (None, 3, 6, 2)], (4, 3))
        self.check_load([(None, 0, 3, 1)] * 5, (5, 0))
        self.check_load([(None, 0, 3, 1), (None, 2, 3, 3), ("a", 3, 4, 2), ("a", 0, 3, 2)], (6, 2))

    def test_a_net_and_a_keep(self):
        self.check_load([("a", 0, 3, 2), (None, 2, 6, 3)], (5, 2))

    def test_one_common_column_is_enough(self):
        self.check_load([("a", 0, 3, 1), ("b", 3, 6, 1)], (2, 3))
        self.check_load([("a", 0, 3, 1), ("b", 4, 6, 1)], (1, 0))

    def test_the_least_of_several_columns(self):
        self.check_load([("a", 7, 9, 2), ("b", 0, 3, 1), ("c", 2, 5, 1)], (2, 2))
        self.check_load([("a", 7, 9, 2), ("b", 1, 3, 2), ("c", 5, 5, 2)], (2, 1))
        self.check_load([("a", 7, 9, 2), ("b", -1, -1, 2), ("c", 5, 5, 2)], (2, -1))
        self.check_load([("a", 7, 9, 2), ("b", -1, 0, 2), ("c", 8, 8, 1)], (3, 8))
        self.check_load([("a", -1, 40, 1), ("b", -1, 40, 1)], (2, -1))

    def test_the_widths_count_and_not_the_number(self):
        self.check_load([("a", 0, 4, 1), ("b", 0, 4, 1), ("c", 8, 9, 3)], (3, 8))

    def test_many(self):
        for seed in range(300):
            pieces = some_pieces(seed % 41, seed, one_width=True)
            with self.subTest(pieces):
                self.check_load(pieces, due_load(pieces))
        self.check_load(some_pieces(120, 1, one_width=True), due_load(some_pieces(120, 1, one_width=True)))

    def test_of_channels(self):
        for channel in good_channels(100):
            for bent in (False, True):
                self.check_load(pieces_of(channel, bent), due_load(pieces_of(channel, bent)))
            # The two pieces at a bend weigh no more there than the whole stretch.
            self.assertEqual(load_of(pieces_of(channel, True)), load_of(pieces_of(channel)))


class FloorTest(AskingCase):
    def check_floor(self, pieces, above):
        told = self.asked(floor_of, pieces, above)
        self.assertIs(type(told), tuple)
        load, column = due_load(pieces)
        weight = chain_of(pieces, above)[0]
        if load >= weight:
            self.assertEqual(told, ("column", load, column))
        else:
            self.assertEqual(told[:2], ("chain", weight))
            self.check_chain(pieces, above, told[2], weight)
        tracks = packed(pieces, above)
        self.assertIsNone(fault_of(pieces, above, tracks))
        self.assertGreaterEqual(count_of(pieces, tracks), told[1])
        return told

    def check_chain(self, pieces, above, numbers, weight):
        self.assertIs(type(numbers), list)
        self.assertEqual(sum(pieces[number][3] for number in numbers), weight)
        pairs = {(p, q) for p, q, column in above}
        for upper, lower in itertools.pairwise(numbers):
            self.assertIn((upper, lower), pairs)

    def test_no_pieces(self):
        self.assertEqual(self.asked(floor_of, [], []), ("column", 0, None))

    def test_a_column(self):
        pieces = [("a", 0, 3, 1), ("b", 2, 5, 2), ("c", 3, 4, 1)]
        self.assertEqual(self.asked(floor_of, pieces, []), ("column", 4, 3))
        self.assertEqual(self.asked(floor_of, pieces, [(0, 1, 2)]), ("column", 4, 3))

    def test_a_chain(self):
        pieces = [("a", 0, 1, 1), ("b", 4, 5, 2), ("c", 8, 9, 1)]
        self.assertEqual(self.asked(floor_of, pieces, [(2, 1, 0)]), ("chain", 3, [2, 1]))
        self.assertEqual(self.asked(floor_of, pieces, [(2, 1, 0), (1, 0, 0)]), ("chain", 4, [2, 1, 0]))
        self.assertEqual(self.asked(floor_of, [("a", 0, 1, 1), ("a", 1, 2, 1)], [(0, 1, 1)]), ("chain", 2, [0, 1]))

    def test_the_column_where_both_weigh_the_same(self):
        self.assertEqual(self.asked(floor_of, [("a", 0, 1, 1), ("b", 1, 2, 1)], [(0, 1, 1)]), ("column", 2, 1))
        pieces = [("a", 0, 1, 2), ("b", 4, 5, 1), ("c", 8, 9, 3)]
        self.assertEqual(self.asked(floor_of, pieces, [(0, 1, 1)]), ("column", 3, 8))
        self.assertEqual(self.asked(floor_of, pieces, [(2, 1, 1)]), ("chain", 4, [2, 1]))
        self.assertEqual(self.asked(floor_of, [("a", 7, 8, 1)], []), ("column", 1, 7))

    def test_a_ring_is_refused(self):
        self.assertEqual(self.check_no_order(floor_of, [("a", 0, 1, 1)], [(0, 0, 3)], 1), [(0, 0, 3)])
        self.check_no_order(floor_of, [("a", 0, 1, 1), ("b", 0, 1, 1)], [(0, 1, 0), (1, 0, 1), (1, 0, 0)], 2)
        self.check_no_order(floor_of, some_pieces(120, 2, one_width=True), shuffled(ring_over(range(120))), 120)

    def test_a_ring_with_tails_is_refused(self):
        above = [(0, 1, 0), (1, 2, 0), (2, 3, 5), (3, 2, 6), (3, 4, 0), (4, 5, 0)]
        for seed in range(10):
            pieces = some_pieces(6, seed, one_width=True)
            ring = self.check_no_order(floor_of, pieces, shuffled(above, seed), 2)
            self.assertEqual(sorted(ring), [(2, 3, 5), (3, 2, 6)])

    def test_many(self):
        kinds = {"column": 0, "chain": 0}
        for seed in range(300):
            count = seed % 31
            pieces = some_pieces(count, seed, widths=(1, 1 + seed % 3), one_width=True)
            above = some_order(count, seed)
            with self.subTest(pieces=pieces, above=above):
                kinds[self.check_floor(pieces, above)[0]] += 1
        self.assertGreater(min(kinds.values()), 50, kinds)

    def test_of_channels(self):
        for channel in good_channels(100):
            for bent in (False, True):
                pieces = pieces_of(channel, bent)
                above = above_of(channel, pieces)
                if ranked(len(pieces), above)[0] == "ring":
                    self.check_no_order(floor_of, pieces, above)
                else:
                    self.check_floor(pieces, above)

    def test_sixty_each_above_the_next_two(self):
        pieces = some_pieces(60, 4, one_width=True)
        self.assertEqual(self.check_floor(pieces, next_two(60))[0], "chain")

    def test_no_sound_tracks_have_a_lesser_count(self):
        tried = 0
        for seed in range(150):
            pieces = some_pieces(1 + seed % 4, seed, widths=(1, 2), one_width=True)
            above = some_order(len(pieces), seed)
            room = floor_of(pieces, above)[1] - 1
            for tracks in itertools.product(*[range(room - piece[3] + 1) for piece in pieces]):
                tried += 1
                self.assertIsNotNone(fault_of(pieces, above, list(tracks)))
        self.assertGreater(tried, 500)

    def test_packed_needs_no_more_where_nothing_lies_above_anything_and_each_net_has_one_piece(self):
        for seed in range(150):
            found = {}
            for piece in some_pieces(seed % 60, seed, widths=(1,)):
                found.setdefault((len(found), None) if piece[0] is None else piece[0], piece)
            pieces = list(found.values())
            self.assertEqual(count_of(pieces, packed(pieces, [])), self.check_floor(pieces, [])[1])

    def test_packed_needs_no_more_where_no_two_of_one_level_have_a_common_column(self):
        lengths = []
        for seed in range(150):
            pieces = some_pieces(seed % 40, seed, widths=(1,))
            above = apart(pieces, some_order(len(pieces), seed))
            levels = ranked(len(pieces), above)[1]
            lengths.append(len(set(levels)) / max(1, len(pieces)))
            self.assertEqual(count_of(pieces, packed(pieces, above)), self.check_floor(pieces, above)[1])
        self.assertGreater(len([length for length in lengths if 0 < length < 0.9]), 50)

    def test_what_is_told_is_the_askers(self):
        pieces = [("a", 0, 1, 1), ("a", 1, 2, 1)]
        above = [(0, 1, 1)]
        floor_of(pieces, above)[2].clear()
        self.assertEqual(floor_of(pieces, above), ("chain", 2, [0, 1]))
        self.check_no_order(floor_of, pieces, above + [(1, 0, 1)]).clear()
        self.check_no_order(floor_of, pieces, above + [(1, 0, 1)], 2)


# The triples, and as many more as part all pieces of one level that have a common column.
def apart(pieces, above):
    above = list(above)
    while True:
        levels = ranked(len(pieces), above)[1]
        for one, other in itertools.combinations(range(len(pieces)), 2):
            if levels[one] == levels[other] and columns_of(pieces[one]) & columns_of(pieces[other]):
                above.append((one, other, 0))
                break
        else:
            return above


if __name__ == "__main__":
    unittest.main()
