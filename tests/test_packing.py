import random
import unittest

from making import (
    AskingCase, columns_of, good_channels, next_of, next_two, ring_over, shuffled, some_order, some_pieces, tracks_of,
)
from wirechannel.above import above_of
from wirechannel.packing import bound_of, by_levels, by_rows, count_of, packed
from wirechannel.pieces import pieces_of
from wirechannel.ranks import ranked

COUNTS = (0, 1, 2, 3, 5, 8, 13, 21, 40)


def some_levels(count, seed):
    chance = random.Random(seed)
    greatest = chance.choice([0, 1, 3, 119])
    return [chance.randint(0, greatest) for number in range(count)]


def in_order(pieces):
    return sorted(range(len(pieces)), key=lambda number: (pieces[number][1], pieces[number][2], number))


# Point 14, word by word: all strips of each level and width, each a list of numbers.
def due_by_levels(pieces, levels):
    tracks = [None] * len(pieces)
    begin = 0
    for level in sorted(set(levels)):
        for width in (3, 2, 1):
            strips = []
            for number in in_order(pieces):
                if levels[number] == level and pieces[number][3] == width:
                    later = set(range(pieces[number][1], 42))
                    for strip in strips:
                        if not any(columns_of(pieces[other]) & later for other in strip):
                            strip.append(number)
                            break
                    else:
                        strips.append([number])
            for strip in strips:
                for number in strip:
                    tracks[number] = begin
                begin += width
    return tracks


# Point 14's bound, column by column.
def due_bound(pieces, levels):
    total = 0
    for level in sorted(set(levels)):
        for width in (1, 2, 3):
            alike = [piece for piece, of in zip(pieces, levels) if of == level and piece[3] == width]
            total += width * max(sum(l <= column <= r for name, l, r, k in alike) for column in range(-1, 41))
    return total


# Point 15, word by word.
def due_by_rows(pieces, above):
    tracks = [None] * len(pieces)
    track = 0
    while None in tracks:
        for number in in_order(pieces):
            if tracks[number] is None and gets(pieces, above, tracks, number, track):
                tracks[number] = track
        track += 1
    return tracks


def gets(pieces, above, tracks, number, track):
    for upper in {p for p, q, column in above if q == number}:
        if tracks[upper] is None or max(tracks_of(pieces[upper], tracks[upper])) >= track:
            return False
    for other, taken in enumerate(tracks):
        own = pieces[other][0] is not None and pieces[other][0] == pieces[number][0]
        if taken is not None and not own and columns_of(pieces[other]) & columns_of(pieces[number]):
            if tracks_of(pieces[other], taken) & tracks_of(pieces[number], track):
                return False
    return True


class PackingCase(AskingCase):
    def asked_tracks(self, ask, pieces, other):
        tracks = self.asked(ask, pieces, other)
        self.assertIs(type(tracks), list)
        self.assertEqual([type(track) for track in tracks], [int] * len(pieces))
        return tracks

    def check_levels(self, pieces, levels, due):
        self.assertEqual(self.asked_tracks(by_levels, pieces, levels), due)
        self.assertEqual(due_by_levels(pieces, levels), due)
        bound = self.asked(bound_of, pieces, levels)
        self.assertIs(type(bound), int)
        self.assertEqual(bound, due_bound(pieces, levels))
        self.assertEqual(bound, count_of(pieces, due))

    def check_rows(self, pieces, above, due):
        self.assertEqual(self.asked_tracks(by_rows, pieces, above), due)
        self.assertEqual(due_by_rows(pieces, above), due)


class CountTest(PackingCase):
    def check_count(self, pieces, tracks, due):
        count = self.asked(count_of, pieces, tracks)
        self.assertIs(type(count), int)
        self.assertEqual(count, due)

    def test_no_pieces(self):
        self.check_count([], [], 0)

    def test_one_piece(self):
        for width in (1, 2, 3):
            self.check_count([("a", 0, 4, width)], [0], width)
            self.check_count([("a", 0, 4, width)], [5], 5 + width)
            self.check_count([(None, -1, 40, width)], [1], 1 + width)

    def test_the_last_track_is_a_wide_ones_that_does_not_begin_last(self):
        pieces = [("a", 0, 1, 3), ("b", 2, 3, 1), ("c", 2, 3, 2)]
        self.check_count(pieces, [4, 5, 2], 7)
        self.check_count(pieces, [4, 6, 2], 7)
        self.check_count(pieces, [4, 7, 2], 8)
        self.check_count(pieces, [0, 0, 6], 8)

    def test_tracks_below_nought(self):
        self.check_count([("a", 0, 1, 1)], [-1], 0)
        self.check_count([("a", 0, 1, 1)], [-7], -6)
        self.check_count([("a", 0, 1, 3), ("b", 0, 1, 1)], [-9, -8], -6)
        self.check_count([("a", 0, 1, 3), ("b", 0, 1, 1)], [-9, 4], 5)
        self.check_count([("a", 0, 1, 3), ("b", 0, 1, 1)], [-2, -8], 1)

    def test_tracks_of_ten_figures(self):
        self.check_count([("a", 0, 1, 3), ("b", 0, 1, 1)], [1234567890, 1234567891], 1234567893)
        self.check_count([("a", 0, 1, 3)], [-1234567890], -1234567887)

    def test_free_tracks_ahead_and_between_count(self):
        self.check_count([("a", 0, 1, 1), ("b", 0, 1, 1)], [3, 9], 10)

    def test_a_hundred_and_twenty(self):
        pieces = some_pieces(120, 3)
        tracks = shuffled(range(120))
        self.check_count(pieces, tracks, max(track + piece[3] for piece, track in zip(pieces, tracks)))
        self.check_count([("a", 0, 1, 1)] * 120, list(range(120)), 120)


class LevelsTest(PackingCase):
    def test_no_pieces(self):
        self.check_levels([], [], [])
        self.assertEqual(bound_of([], []), 0)

    def test_one_piece(self):
        for width in (1, 2, 3):
            for level in (0, 5, 119):
                self.check_levels([("a", -1, 40, width)], [level], [0])
                self.assertEqual(bound_of([("a", -1, 40, width)], [level]), width)

    def test_one_level(self):
        self.check_levels([("a", 0, 2, 1), ("b", 1, 3, 1), ("c", 3, 4, 1)], [0, 0, 0], [0, 1, 0])

    def test_several_levels_rising(self):
        pieces = [("a", 0, 1, 1), ("b", 4, 5, 1), ("c", 8, 9, 1), ("d", 12, 13, 1)]
        self.check_levels(pieces, [2, 0, 1, 0], [2, 0, 1, 0])
        self.check_levels(pieces, [0, 1, 2, 3], [0, 1, 2, 3])
        self.check_levels(pieces, [3, 2, 1, 0], [3, 2, 1, 0])

    def test_levels_of_none_take_no_track(self):
        pieces = [("a", 0, 1, 1), ("b", 4, 5, 2), ("c", 8, 9, 1)]
        self.check_levels(pieces, [119, 7, 3], [3, 1, 0])
        self.check_levels(pieces, [10, 9, 100], [2, 0, 3])

    def test_within_a_level_the_widths_three_two_one(self):
        pieces = [("a", 0, 1, 1), ("b", 10, 11, 2), ("c", 20, 21, 3)]
        self.check_levels(pieces, [0, 0, 0], [5, 3, 0])
        self.check_levels(pieces + pieces, [1, 1, 1, 0, 0, 0], [11, 9, 6, 5, 3, 0])
        self.check_levels([("a", 0, 1, 1), ("b", 0, 1, 2)], [4, 4], [2, 0])

    def test_one_common_column_is_enough_for_two_strips(self):
        self.check_levels([("a", 0, 3, 1), ("b", 3, 5, 1)], [0, 0], [0, 1])
        self.check_levels([("a", -1, -1, 1), ("b", -1, 40, 1)], [0, 0], [0, 1])
        self.check_levels([("a", 40, 40, 2), ("b", -1, 40, 2)], [0, 0], [2, 0])

    def test_ended_just_ahead_is_enough_for_one_strip(self):
        self.check_levels([("a", 0, 3, 1), ("b", 4, 5, 1)], [0, 0], [0, 0])
        self.check_levels([("a", -1, -1, 3), ("b", 0, 40, 3)], [0, 0], [0, 0])
        self.check_levels([("a", 40, 40, 1), ("b", -1, 39, 1)], [0, 0], [0, 0])

    def test_by_their_columns_and_not_by_their_places(self):
        self.check_levels([("a", 6, 9, 1), ("b", 3, 7, 1), ("c", 0, 4, 1)], [0, 0, 0], [0, 1, 0])
        self.check_levels([("a", 5, 9, 1), ("b", 0, 6, 1)], [0, 0], [1, 0])

    def test_by_the_last_column_where_they_begin_together(self):
        self.check_levels([("a", 0, 9, 1), ("b", 0, 3, 1), ("c", 4, 5, 1)], [0, 0, 0], [1, 0, 0])

    def test_by_the_number_where_they_lie_alike(self):
        self.check_levels([("b", 0, 3, 1), ("a", 0, 3, 1), (None, 0, 3, 1)], [0, 0, 0], [0, 1, 2])

    def test_the_first_free_strip_and_not_the_last_one_or_the_tightest(self):
        pieces = [("a", 0, 1, 1), ("b", 1, 2, 1), ("c", 2, 3, 1), ("d", 5, 6, 1), ("e", 6, 7, 1)]
        self.check_levels(pieces, [0] * 5, [0, 1, 0, 0, 1])
        self.check_levels([("a", 0, 2, 2), ("b", 0, 4, 2), ("c", 5, 6, 2)], [0] * 3, [0, 2, 0])

    def test_alike_pieces(self):
        self.check_levels([("a", 2, 3, 2)] * 4, [0] * 4, [0, 2, 4, 6])
        self.check_levels([("a", 2, 3, 2)] * 4, [1, 0, 1, 0], [4, 0, 6, 2])

    def test_two_of_one_net_with_a_common_column_lie_on_two_strips(self):
        self.check_levels([("a", 0, 3, 1), ("a", 3, 5, 1)], [0, 0], [0, 1])
        self.check_levels([("a", 0, 3, 1), ("a", 4, 5, 1)], [0, 0], [0, 0])

    def test_keeps_among_them(self):
        pieces = [("a", 0, 3, 1), (None, 2, 5, 1), (None, 4, 4, 1), ("b", 6, 6, 1)]
        self.check_levels(pieces, [0, 0, 0, 0], [0, 1, 0, 0])
        self.check_levels(pieces, [1, 0, 0, 0], [2, 0, 1, 0])

    def test_a_greater_number_in_an_early_a_middle_and_a_late_column(self):
        for column in (-1, 0, 17, 39, 40):
            pieces = [("a", column, column, 2), ("b", -1, 40, 2), ("c", column, min(40, column + 1), 2)]
            self.assertEqual(self.asked(bound_of, pieces, [0, 0, 0]), 6)
            self.assertEqual(self.asked(bound_of, pieces, [0, 1, 0]), 6)
            self.assertEqual(self.asked(bound_of, [("d", 18, 20, 1)] + pieces[:2], [0, 0, 0]), 5)

    def test_the_bound_of_pieces_that_meet_by_twos_alone(self):
        pieces = [("a", 0, 2, 1), ("b", 2, 4, 1), ("c", 4, 6, 1), ("d", 6, 8, 1)]
        self.check_levels(pieces, [0] * 4, [0, 1, 0, 1])
        self.assertEqual(bound_of(pieces, [0] * 4), 2)

    def test_many(self):
        for seed in range(300):
            count = COUNTS[seed % len(COUNTS)]
            pieces = some_pieces(count, seed)
            levels = some_levels(count, seed)
            with self.subTest(pieces=pieces, levels=levels):
                self.check_levels(pieces, levels, due_by_levels(pieces, levels))

    def test_a_hundred_and_twenty(self):
        for seed in range(8):
            pieces = some_pieces(120, seed)
            for levels in (some_levels(120, seed), shuffled(range(120)), [0] * 120):
                self.check_levels(pieces, levels, due_by_levels(pieces, levels))

    def test_nothing_is_refused_for_a_bound_that_is_passed(self):
        pieces = [("a", -2, 44, 1), ("b", 44, 50, 1), ("c", -2, -2, 4)]
        self.assertEqual(by_levels(pieces, [7, 7, 130]), [0, 1, 2])
        self.assertEqual(by_levels(pieces, [7, 7, 7]), [4, 5, 0])
        self.assertEqual(bound_of(pieces, [7, 7, 130]), 6)
        self.assertEqual(by_levels([("a", 0, 3, 1)] * 130, list(range(130))), list(range(130)))

    def test_what_is_told_is_the_askers(self):
        pieces = [("a", 0, 3, 1), ("b", 3, 5, 1)]
        levels = [0, 0]
        by_levels(pieces, levels).append(7)
        by_levels(pieces, levels)[0] = 7
        self.assertEqual(by_levels(pieces, levels), [0, 1])
        self.assertEqual((pieces, levels), ([("a", 0, 3, 1), ("b", 3, 5, 1)], [0, 0]))


class RowsTest(PackingCase):
    def test_no_pieces(self):
        self.check_rows([], [], [])

    def test_one_piece(self):
        for name in ("a", None):
            for width in (1, 2, 3):
                self.check_rows([(name, -1, 40, width)], [], [0])

    def test_without_triples(self):
        self.check_rows([("a", 0, 2, 1), ("b", 2, 4, 1), ("c", 3, 6, 1), ("d", 5, 6, 1)], [], [0, 1, 0, 1])

    def test_by_their_columns_and_then_by_their_places(self):
        self.check_rows([("a", 5, 9, 1), ("b", 0, 6, 1)], [], [1, 0])
        self.check_rows([("a", 0, 9, 1), ("b", 0, 3, 1), ("c", 4, 5, 1)], [], [1, 0, 0])
        self.check_rows([("b", 0, 3, 1), ("a", 0, 3, 1)], [], [0, 1])

    def test_one_below_another(self):
        pieces = [("a", 0, 1, 1), ("b", 5, 6, 1)]
        self.check_rows(pieces, [(0, 1, 3)], [0, 1])
        self.check_rows(pieces, [(1, 0, 3)], [1, 0])

    def test_no_row_is_the_row_of_a_piece_above_it_that_came_just_ahead(self):
        self.check_rows([("a", 0, 1, 1), ("b", 2, 3, 1), ("c", 4, 5, 1)], [(0, 1, 0), (1, 2, 0)], [0, 1, 2])

    def test_a_level_may_fill_the_row_of_another(self):
        pieces = [("a", 0, 1, 1), ("b", 0, 9, 1), ("c", 10, 12, 1)]
        self.check_rows(pieces, [(0, 1, 0), (0, 2, 0)], [0, 1, 1])
        self.check_rows([("a", 0, 1, 1), ("b", 0, 1, 1), ("c", 3, 4, 1)], [(2, 1, 0)], [0, 1, 0])

    def test_of_one_net_with_a_common_column_may_share_a_track(self):
        self.check_rows([("a", 0, 3, 1), ("a", 3, 5, 1)], [], [0, 0])
        self.check_rows([("a", 0, 3, 2), ("a", 0, 3, 2), ("a", 1, 9, 1)], [], [0, 0, 0])
        self.check_rows([("a", 0, 3, 1), ("b", 3, 5, 1)], [], [0, 1])
        self.check_rows([("a", 0, 3, 1), ("a", 2, 6, 1), ("b", 5, 9, 1)], [], [0, 0, 1])

    def test_of_one_net_with_a_triple_they_may_not(self):
        self.check_rows([("a", 0, 3, 1), ("a", 3, 5, 1)], [(1, 0, 3)], [1, 0])

    def test_two_keeps_with_a_common_column_may_not_share_a_track(self):
        self.check_rows([(None, 0, 3, 1), (None, 3, 5, 1)], [], [0, 1])
        self.check_rows([(None, 0, 3, 2), (None, 0, 3, 2)], [], [0, 2])
        self.check_rows([(None, 0, 3, 1), (None, 4, 5, 1)], [], [0, 0])

    def test_a_keep_and_a_net_may_not_either(self):
        self.check_rows([(None, 0, 3, 1), ("a", 3, 5, 1)], [], [0, 1])

    def test_one_waits_for_a_wide_one_above_it(self):
        for width in (1, 2, 3):
            self.check_rows([("a", 0, 3, width), ("b", 7, 9, 1)], [(0, 1, 5)], [0, width])
            pieces = [("a", 0, 3, 1), ("b", 7, 9, width), ("c", 0, 9, 1)]
            self.check_rows(pieces, [(0, 1, 5), (1, 2, 5)], [0, 1, 1 + width])

    def test_one_waits_for_the_last_one_above_it(self):
        pieces = [("a", 0, 1, 1), ("b", 3, 4, 3), ("c", 6, 7, 2), ("d", 9, 10, 1)]
        self.check_rows(pieces, [(0, 3, 1), (1, 3, 1), (2, 3, 1)], [0, 0, 0, 3])
        self.check_rows(pieces, [(0, 2, 1), (0, 3, 0), (2, 3, 1)], [0, 0, 1, 3])

    def test_a_wide_one_holds_its_later_tracks(self):
        pieces = [("a", 0, 3, 3), ("b", 2, 5, 1), ("c", 4, 5, 1), ("d", 6, 9, 1), ("e", 4, 9, 1)]
        self.check_rows(pieces, [], [0, 3, 0, 0, 1])

    def test_a_wide_one_beside_others_on_its_later_tracks(self):
        pieces = [("a", 4, 9, 3), ("b", 0, 3, 1), ("c", 0, 3, 1), ("d", 0, 4, 1), ("e", 0, 1, 1)]
        self.check_rows(pieces, [], [0, 1, 2, 3, 0])
        self.check_rows(pieces, [(1, 2, 0), (2, 3, 0)], [0, 1, 2, 3, 0])

    def test_triples_in_any_order_and_one_pair_by_several_columns(self):
        pieces = some_pieces(12, 7)
        above = [(p, q, column) for p, q in [(0, 5), (5, 3), (3, 9), (0, 9), (2, 5), (7, 11)] for column in (-1, 4, 40)]
        due = due_by_rows(pieces, above[::3])
        for seed in range(20):
            self.check_rows(pieces, shuffled(above, seed), due)

    def test_many(self):
        for seed in range(300):
            count = COUNTS[seed % len(COUNTS)]
            pieces = some_pieces(count, seed)
            above = some_order(count, seed + 1)
            with self.subTest(pieces=pieces, above=above):
                self.check_rows(pieces, above, due_by_rows(pieces, above))

    def test_many_of_width_one(self):
        for seed in range(100):
            pieces = some_pieces(20, seed, widths=(1,))
            above = some_order(20, seed)
            self.check_rows(pieces, above, due_by_rows(pieces, above))

    def test_sixty_each_above_the_next_two(self):
        pieces = shuffled([("a", number % 7, 20, 1 + number % 3) for number in range(60)])
        due = [sum(piece[3] for piece in pieces[:number]) for number in range(60)]
        for above in (next_two(60), shuffled(next_two(60))):
            self.assertEqual(self.asked_tracks(by_rows, pieces, above), due)

    def test_a_hundred_and_twenty(self):
        pieces = [("a", 0, 40, 3)] * 120
        for above in (next_of(120), next_two(120), [(p, q, 0) for p in range(120) for q in range(p + 1, 120)]):
            self.assertEqual(self.asked_tracks(by_rows, pieces, shuffled(above)), list(range(0, 360, 3)))
        self.check_rows(pieces, [], [0] * 120)
        self.assertEqual(by_rows([(None, -1, 40, 3)] * 120, []), list(range(0, 360, 3)))
        for seed in range(2):
            pieces = some_pieces(120, seed)
            above = some_order(120, seed)
            self.check_rows(pieces, above, due_by_rows(pieces, above))

    def test_a_hundred_and_twenty_each_pair_by_all_columns(self):
        pieces = [("a", 0, 40, 3)] * 120
        above = [(p, q, column) for p in range(120) for q in range(p + 1, 120) for column in range(-1, 41)]
        self.assertEqual(by_rows(pieces, above), list(range(0, 360, 3)))

    def test_what_is_told_is_the_askers(self):
        pieces = [("a", 0, 3, 1), ("b", 3, 5, 1)]
        above = [(1, 0, 3)]
        by_rows(pieces, above).append(7)
        by_rows(pieces, above)[0] = 7
        self.assertEqual(by_rows(pieces, above), [1, 0])
        self.assertEqual((pieces, above), ([("a", 0, 3, 1), ("b", 3, 5, 1)], [(1, 0, 3)]))


# By rows the pieces of level 1 fill up the row of level 0.
BETTER_BY_ROWS = ([("a", 0, 1, 1), ("b", 0, 1, 1), ("c", 3, 4, 1), ("d", 3, 4, 1)], [(0, 1, 0)])
# Both need three tracks, but by levels the wide one comes first.
ALIKE = ([("a", 0, 1, 1), ("b", 0, 1, 2)], [])
# By rows c comes straight beneath b, and a, which d waits for, behind it.
BETTER_BY_LEVELS = ([("a", 0, 4, 1), ("b", 0, 3, 1), ("c", 0, 2, 1), ("d", 5, 6, 1)], [(1, 2, 0), (0, 3, 0)])


# Pieces that lie close together, and triples of an order.
def close_pieces(seed):
    chance = random.Random(seed)
    pieces = []
    for number in range(8):
        first = chance.randint(0, 3)
        pieces.append(("abcdefgh"[number], first, first + chance.randint(0, 4), chance.choice([1, 1, 1 + seed % 3])))
    return pieces, some_order(8, seed)


class PackedTest(PackingCase):
    def check_packed(self, pieces, above, due):
        tracks = self.asked_tracks(packed, pieces, above)
        self.assertEqual(tracks, due)
        self.assertLessEqual(count_of(pieces, tracks), bound_of(pieces, ranked(len(pieces), above)[1]))

    def counts(self, pieces, above):
        tracks = (by_rows(pieces, above), by_levels(pieces, ranked(len(pieces), above)[1]))
        return tuple(count_of(pieces, told) for told in tracks)

    def check_refused(self, pieces, above, length=None):
        return self.check_no_order(packed, pieces, above, length)

    def test_no_pieces(self):
        self.check_packed([], [], [])

    def test_by_rows_where_its_count_is_less(self):
        self.assertEqual(self.counts(*BETTER_BY_ROWS), (2, 3))
        self.check_packed(*BETTER_BY_ROWS, [0, 1, 0, 1])

    def test_by_rows_where_the_counts_are_the_same(self):
        self.assertEqual(self.counts(*ALIKE), (3, 3))
        self.assertEqual(by_levels(ALIKE[0], [0, 0]), [2, 0])
        self.check_packed(*ALIKE, [0, 1])

    def test_by_levels_where_its_count_is_less(self):
        self.assertEqual(self.counts(*BETTER_BY_LEVELS), (4, 3))
        self.check_packed(*BETTER_BY_LEVELS, [1, 0, 2, 2])

    def test_many(self):
        kinds = {-1: 0, 0: 0, 1: 0}
        for seed in range(600):
            pieces, above = close_pieces(seed)
            if seed % 3 == 0:
                count = COUNTS[seed // 3 % len(COUNTS)]
                pieces, above = some_pieces(count, seed), some_order(count, seed)
            rowed = due_by_rows(pieces, above)
            leveled = due_by_levels(pieces, ranked(len(pieces), above)[1])
            less = count_of(pieces, rowed) - count_of(pieces, leveled)
            kinds[(less > 0) - (less < 0)] += 1
            with self.subTest(pieces=pieces, above=above):
                self.check_packed(pieces, above, leveled if less > 0 else rowed)
        self.assertGreater(min(kinds.values()), 5, kinds)

    def test_of_channels(self):
        for channel in good_channels(200):
            pieces = pieces_of(channel, True)
            above = above_of(channel, pieces)
            rank, found = ranked(len(pieces), above)
            if rank == "levels":
                rowed, leveled = due_by_rows(pieces, above), due_by_levels(pieces, found)
                self.check_packed(pieces, above, min(rowed, leveled, key=lambda told: count_of(pieces, told)))
            else:
                self.check_refused(pieces, above)

    def test_a_ring_of_one(self):
        self.assertEqual(self.check_refused([("a", 0, 1, 1)], [(0, 0, 7)], 1), [(0, 0, 7)])
        self.check_refused([("a", 0, 1, 1)] * 3, [(0, 1, 7), (1, 1, 3), (1, 2, 4)], 1)

    def test_a_ring_of_two(self):
        self.check_refused([("a", 0, 1, 1), ("b", 0, 1, 1)], [(0, 1, 0), (1, 0, 1)], 2)
        self.check_refused([("a", 0, 1, 1), ("b", 0, 1, 1)], [(0, 1, 0), (1, 0, 1), (0, 1, 2), (1, 0, 5)], 2)

    def test_a_ring_of_many(self):
        self.check_refused(some_pieces(30, 2), shuffled(ring_over(range(30))), 30)
        self.check_refused(some_pieces(120, 2), shuffled(ring_over(shuffled(range(120)))), 120)

    def test_a_ring_with_tails(self):
        ring = [(3, 4, 0), (4, 5, 1), (5, 3, 2)]
        tails = [(0, 1, 0), (1, 2, 0), (2, 3, 0), (5, 6, 0), (6, 7, 0), (7, 8, 0)]
        for seed in range(10):
            self.assertEqual(sorted(self.check_refused(some_pieces(9, seed), shuffled(ring + tails, seed), 3)), ring)

    def test_what_is_told_is_the_askers(self):
        for pieces, above in (BETTER_BY_ROWS, ALIKE, BETTER_BY_LEVELS):
            due = list(packed(pieces, above))
            packed(pieces, above).clear()
            by_rows(pieces, above).append(3)
            self.assertEqual(packed(pieces, above), due)
        above = [(0, 1, 0), (1, 0, 0)]
        for turn in range(2):
            self.check_refused([("a", 0, 1, 1)] * 2, above, 2).clear()


if __name__ == "__main__":
    unittest.main()
