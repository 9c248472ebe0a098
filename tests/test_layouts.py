import copy
import itertools
import random
import unittest

from making import (
    AskingCase, columns_of, good_channels, is_ring, made, shuffled, some_above, some_pieces, tangled_channels,
    tracks_of,
)
from wirechannel.above import above_of
from wirechannel.errors import BadBend, BadKeep, Lone, NoLayout, NoNet
from wirechannel.layouts import Layout, fault_of, laid, ring_of
from wirechannel.packing import by_levels, count_of, packed
from wirechannel.pieces import pieces_of
from wirechannel.ranks import ranked


# Point 18, word by word.
def due_fault(pieces, above, tracks):
    for number, track in enumerate(tracks):
        if track < 0:
            return ("track", number)
    taken = [tracks_of(piece, track) for piece, track in zip(pieces, tracks)]
    for p, q in itertools.combinations(range(len(pieces)), 2):
        one_net = pieces[p][0] is not None and pieces[p][0] == pieces[q][0]
        columns = columns_of(pieces[p]) & columns_of(pieces[q])
        if not one_net and columns and taken[p] & taken[q]:
            return ("meet", p, q, min(columns))
    for p, q, column in above:
        if not max(taken[p]) < min(taken[q]):
            return ("order", p, q, column)
    return None


class FaultTest(AskingCase):
    def check_fault(self, pieces, above, tracks, due):
        told = self.asked(fault_of, pieces, above, tracks)
        self.assertIs(type(told), type(due))
        self.assertEqual(told, due)
        self.assertEqual(due_fault(pieces, above, tracks), due)

    def test_nothing_at_all(self):
        self.check_fault([], [], [], None)

    def test_sound_tracks(self):
        self.check_fault([("a", 0, 4, 1)], [], [0], None)
        self.check_fault([("a", 0, 4, 3)], [], [7], None)
        self.check_fault([("a", 0, 4, 1), ("b", 3, 6, 2)], [(0, 1, 3)], [0, 1], None)
        self.check_fault([("a", 0, 4, 1), ("b", 3, 6, 2)], [(0, 1, 3)], [0, 9], None)
        self.check_fault([("a", 0, 4, 3), ("b", 3, 6, 2)], [(1, 0, 3)], [2, 0], None)

    def test_tracks_of_ten_figures(self):
        pieces = [("a", 0, 4, 3), ("b", 3, 6, 2)]
        self.check_fault(pieces, [(0, 1, 3)], [1234567890, 1234567893], None)
        self.check_fault(pieces, [(0, 1, 3)], [1234567890, 1234567892], ("meet", 0, 1, 3))
        self.check_fault(pieces, [(1, 0, 3)], [1234567890, 1234567893], ("order", 1, 0, 3))
        self.check_fault(pieces, [], [0, -1234567893], ("track", 1))

    def test_a_track_below_nought(self):
        self.check_fault([("a", 0, 4, 1)], [], [-1], ("track", 0))
        self.check_fault([(None, 0, 4, 3)], [], [-2], ("track", 0))
        self.check_fault([("a", 0, 1, 1), ("b", 3, 4, 1)], [], [0, -1], ("track", 1))

    def test_the_least_of_several_below_nought(self):
        pieces = [("a", 0, 1, 1), ("b", 3, 4, 1), ("c", 6, 7, 1), ("d", 9, 9, 1)]
        self.check_fault(pieces, [], [0, -1, -9, 3], ("track", 1))
        self.check_fault(pieces, [], [0, 1, -1, -9], ("track", 2))
        self.check_fault(pieces, [], [-1, -2, -3, -4], ("track", 0))

    def test_two_meet_on_the_first_track_of_both(self):
        self.check_fault([("a", 0, 4, 1), ("b", 2, 6, 1)], [], [3, 3], ("meet", 0, 1, 2))
        self.check_fault([("a", 0, 4, 2), ("b", 2, 6, 3)], [], [0, 0], ("meet", 0, 1, 2))

    def test_two_meet_on_a_later_track_of_a_wide_one(self):
        for tracks, due in (([4, 3], None), ([4, 5], ("meet", 0, 1, 2)), ([4, 6], ("meet", 0, 1, 2)), ([4, 7], None)):
            self.check_fault([("a", 0, 4, 3), ("b", 2, 6, 1)], [], tracks, due)
            self.check_fault([("b", 2, 6, 1), ("a", 0, 4, 3)], [], tracks[::-1], due)
        for tracks, due in (([2, 0], None), ([1, 0], ("meet", 0, 1, 2)), ([0, 3], None), ([0, 2], ("meet", 0, 1, 2))):
            self.check_fault([("a", 0, 4, 3), ("b", 2, 6, 2)], [], tracks, due)

    def test_one_common_column_is_enough(self):
        self.check_fault([("a", 0, 4, 1), ("b", 4, 6, 1)], [], [0, 0], ("meet", 0, 1, 4))
        self.check_fault([("a", 4, 6, 1), ("b", 0, 4, 1)], [], [0, 0], ("meet", 0, 1, 4))
        self.check_fault([("a", -1, -1, 1), ("b", -1, 6, 1)], [], [0, 0], ("meet", 0, 1, -1))
        self.check_fault([("a", 40, 40, 1), ("b", 0, 40, 1)], [], [0, 0], ("meet", 0, 1, 40))

    def test_without_a_common_column_they_may_share_a_track(self):
        self.check_fault([("a", 0, 4, 1), ("b", 5, 6, 1)], [], [0, 0], None)
        self.check_fault([(None, 0, 4, 3), (None, 5, 6, 3), ("a", 7, 8, 2)], [], [0, 0, 1], None)

    def test_the_least_common_column(self):
        self.check_fault([("a", -1, 40, 1), ("b", -1, 40, 1)], [], [0, 0], ("meet", 0, 1, -1))
        self.check_fault([("a", 5, 9, 1), ("b", 3, 20, 1)], [], [0, 0], ("meet", 0, 1, 5))
        self.check_fault([("a", 5, 9, 1), ("b", 7, 8, 1)], [], [0, 0], ("meet", 0, 1, 7))

    def test_pieces_of_one_net_may_share_a_track(self):
        self.check_fault([("a", 0, 4, 1), ("a", 4, 6, 1)], [], [0, 0], None)
        self.check_fault([("a", 0, 4, 3), ("a", 0, 4, 3)], [], [0, 1], None)
        self.check_fault([("a", 0, 4, 1), ("aa", 0, 4, 1)], [], [0, 0], ("meet", 0, 1, 0))

    def test_keeps_may_not(self):
        self.check_fault([(None, 0, 4, 1), (None, 4, 6, 1)], [], [0, 0], ("meet", 0, 1, 4))
        self.check_fault([(None, 0, 4, 3), (None, 0, 4, 3)], [], [2, 0], ("meet", 0, 1, 0))
        self.check_fault([(None, 0, 4, 1), ("a", 4, 6, 1)], [], [0, 0], ("meet", 0, 1, 4))
        self.check_fault([("a", 0, 4, 1), (None, 2, 6, 1)], [], [0, 0], ("meet", 0, 1, 2))

    def test_the_first_two_that_meet(self):
        pieces = [("a", 0, 4, 1), ("b", 5, 9, 1), ("c", 9, 12, 1), ("d", 3, 5, 1)]
        self.check_fault(pieces, [], [0, 0, 0, 0], ("meet", 0, 3, 3))
        self.check_fault(pieces, [], [1, 0, 0, 0], ("meet", 1, 2, 9))
        self.check_fault(pieces, [], [1, 0, 2, 0], ("meet", 1, 3, 5))
        self.check_fault([("a", 0, 4, 1)] + [("b", 2, 4, 1)] * 3, [], [0, 0, 0, 0], ("meet", 0, 1, 2))
        self.check_fault([("b", 2, 4, 1)] * 3 + [("a", 0, 4, 1)], [], [5, 6, 7, 7], ("meet", 2, 3, 2))

    def test_beside_and_below_is_no_order(self):
        pieces = [("a", 0, 4, 1), ("b", 6, 9, 1)]
        self.check_fault(pieces, [(0, 1, 5)], [3, 3], ("order", 0, 1, 5))
        self.check_fault(pieces, [(0, 1, 5)], [4, 3], ("order", 0, 1, 5))
        self.check_fault(pieces, [(0, 1, 5)], [3, 4], None)
        self.check_fault(pieces, [(1, 0, 5)], [3, 4], ("order", 1, 0, 5))
        self.check_fault(pieces, [(1, 0, 5)], [4, 3], None)

    def test_a_wide_one_that_reaches_the_first_track_of_the_one_below(self):
        for width in (1, 2, 3):
            pieces = [("a", 0, 4, width), ("b", 6, 9, 3)]
            for track in range(2, 9):
                due = ("order", 0, 1, 5) if track < 2 + width else None
                self.check_fault(pieces, [(0, 1, 5)], [2, track], due)

    def test_a_wide_one_below(self):
        self.check_fault([("a", 0, 4, 1), ("b", 6, 9, 3)], [(0, 1, 5)], [0, 1], None)
        self.check_fault([("a", 0, 4, 1), ("b", 6, 9, 3)], [(0, 1, 5)], [1, 0], ("order", 0, 1, 5))

    def test_the_first_triple_in_the_order_of_above(self):
        pieces = [("a", 0, 1, 1), ("b", 3, 4, 1), ("c", 6, 7, 1)]
        above = [(0, 1, 9), (1, 2, 4), (0, 2, 7), (1, 2, 3)]
        for turned in itertools.permutations(above):
            first = next(triple for triple in turned if triple[1] == 2)
            self.check_fault(pieces, list(turned), [0, 1, 0], ("order",) + first)

    def test_above_itself(self):
        self.check_fault([("a", 0, 1, 1)], [(0, 0, 6)], [3], ("order", 0, 0, 6))

    def test_of_one_net_they_keep_their_order_too(self):
        self.check_fault([("a", 0, 4, 1), ("a", 4, 6, 1)], [(0, 1, 4)], [0, 0], ("order", 0, 1, 4))

    def test_two_and_three_faults_at_once(self):
        pieces = [("a", 0, 4, 1), ("b", 2, 6, 1), ("c", 8, 9, 1)]
        above = [(1, 0, 3)]
        self.check_fault(pieces, above, [0, 0, -1], ("track", 2))
        self.check_fault(pieces, above, [0, 1, -1], ("track", 2))
        self.check_fault(pieces, [], [0, 0, -1], ("track", 2))
        self.check_fault(pieces, above, [0, 0, 0], ("meet", 0, 1, 2))
        self.check_fault(pieces, [(2, 0, 5), (1, 0, 3)], [0, 0, 4], ("meet", 0, 1, 2))
        self.check_fault(pieces, above, [-1, -1, -1], ("track", 0))
        self.check_fault(pieces, above, [0, 1, 0], ("order", 1, 0, 3))
        self.check_fault(pieces, above, [1, 0, 0], None)

    def test_many(self):
        kinds = {"track": 0, "meet": 0, "order": 0, None: 0}
        for seed in range(1500):
            chance = random.Random(seed)
            count = seed % 9
            pieces = some_pieces(count, seed)
            above = some_above(count, seed)[:chance.randint(0, 4)]
            least = chance.choice([-3, 0, 0, 0])
            tracks = [chance.randint(least, 4 * count) for piece in pieces]
            due = due_fault(pieces, above, tracks)
            kinds[due and due[0]] += 1
            with self.subTest(pieces=pieces, above=above, tracks=tracks):
                self.check_fault(pieces, above, tracks, due)
        self.assertGreater(min(kinds.values()), 100, kinds)

    def test_a_hundred_and_twenty(self):
        for seed in range(4):
            pieces = some_pieces(120, seed)
            levels = shuffled(range(120), seed)
            tracks = by_levels(pieces, levels)
            above = shuffled([(p, q, 0) for p in range(120) for q in range(120) if levels[p] < levels[q]], seed)
            self.check_fault(pieces, above, tracks, None)
            self.check_fault(pieces, above + [(7, 7, 1)], tracks, ("order", 7, 7, 1))


# A straight one, though a bend is told; a ring that a bend breaks; one without a bend; one whose bends don't help.
def straight():
    return made(["a", None, "a", "b"], ["b", None, None, None], bends=[(1, "a")])


def bent():
    return made(["a", None, "b"], ["b", None, "a"], bends=[(1, "a")])


def ringed():
    return made(["a", "b"], ["b", "a"], keeps=[(0, 0, 2)])


def ringed_though_bent():
    return made(["a", "b", None, "a"], ["b", "a", None, None], bends=[(2, "a")])


class LayoutTest(unittest.TestCase):
    def test_its_fields(self):
        channel = straight()
        pieces = [("a", 0, 2, 1), ("b", 0, 3, 3)]
        layout = Layout(channel, False, pieces, [(0, 1, 0)], [0, 4])
        self.assertEqual(vars(layout.channel), vars(channel))
        self.assertIs(layout.bent, False)
        self.assertEqual((layout.pieces, layout.above), (pieces, [(0, 1, 0)]))
        self.assertEqual((layout.tracks, layout.count), ([0, 4], 7))

    def test_bent(self):
        channel = bent()
        pieces = pieces_of(channel, True)
        layout = Layout(channel, True, pieces, above_of(channel, pieces), [0, 3, 2])
        self.assertIs(layout.bent, True)
        self.assertEqual(layout.pieces, [("a", 0, 1, 1), ("a", 1, 2, 1), ("b", 0, 2, 1)])
        self.assertEqual(layout.count, 4)

    def test_no_pieces(self):
        layout = Layout(made([None], [None]), False, [], [], [])
        self.assertEqual((layout.pieces, layout.above, layout.tracks, layout.count), ([], [], [], 0))

    def test_what_it_is_made_of_stays_when_it_is_changed(self):
        given = ([("a", 0, 2, 1)], [(0, 0, 0)], [5])
        layout = Layout(straight(), False, *given)
        for field in (layout.pieces, layout.above, layout.tracks):
            field.clear()
        self.assertEqual(given, ([("a", 0, 2, 1)], [(0, 0, 0)], [5]))

    def test_the_count_of_many(self):
        for seed in range(50):
            pieces = some_pieces(seed, seed)
            tracks = shuffled(range(seed), seed)
            self.assertEqual(Layout(straight(), False, pieces, [], tracks).count, count_of(pieces, tracks))


class LaidCase(AskingCase):
    # What laid tells of a channel that it lays, with all that point 19 says of it.
    def check_laid(self, channel, bent):
        before = copy.deepcopy(vars(channel))
        layout = laid(channel)
        self.assertIs(type(layout), Layout)
        self.assertEqual(vars(channel), before)
        self.assertEqual(vars(layout.channel), before)
        self.assertIs(layout.bent, bent)
        self.assertEqual(layout.pieces, pieces_of(channel, bent))
        self.assertEqual(layout.above, above_of(channel, layout.pieces))
        self.assertEqual(layout.tracks, packed(layout.pieces, layout.above))
        self.assertEqual(layout.count, count_of(layout.pieces, layout.tracks))
        self.assertIsNone(fault_of(layout.pieces, layout.above, layout.tracks))
        self.assertIsNone(due_fault(layout.pieces, layout.above, layout.tracks))
        return layout

    def check_none(self, channel):
        before = copy.deepcopy(vars(channel))
        refusal = self.refused(NoLayout, ["pieces", "ring"], laid, channel)
        self.assertEqual(vars(channel), before)
        self.assertEqual(refusal.pieces, pieces_of(channel, True))
        self.assertIs(type(refusal.ring), list)
        self.assertTrue(is_ring(refusal.ring, above_of(channel, refusal.pieces)), refusal.ring)
        return refusal

    def check_ring_of(self, channel):
        before = copy.deepcopy(vars(channel))
        ring = ring_of(channel)
        self.assertEqual(vars(channel), before)
        self.assertEqual(ring_of(channel), ring)
        self.assertEqual(ring_of(copy.deepcopy(channel)), ring)
        above = above_of(channel, pieces_of(channel))
        if ranked(len(pieces_of(channel)), above)[0] == "levels":
            self.assertIsNone(ring)
        else:
            self.assertIs(type(ring), list)
            self.assertTrue(is_ring(ring, above), ring)
        return ring


class LaidTest(LaidCase):
    def test_straight(self):
        layout = self.check_laid(made(["a", "a", "b"], ["b", None, None]), False)
        self.assertEqual(layout.pieces, [("a", 0, 1, 1), ("b", 0, 2, 1)])
        self.assertEqual((layout.above, layout.tracks, layout.count), ([(0, 1, 0)], [0, 1], 2))

    def test_straight_though_bends_are_told(self):
        layout = self.check_laid(straight(), False)
        self.assertEqual(layout.pieces, [("a", 0, 2, 1), ("b", 0, 3, 1)])

    def test_bent_where_that_breaks_the_ring(self):
        layout = self.check_laid(bent(), True)
        self.assertEqual(layout.pieces, [("a", 0, 1, 1), ("a", 1, 2, 1), ("b", 0, 2, 1)])
        self.assertEqual(layout.above, [(0, 2, 0), (2, 1, 2)])
        self.assertEqual((layout.tracks, layout.count), ([0, 2, 1], 3))

    def test_a_net_with_several_bends(self):
        top = ["a", None, "b", None, "a", None, "c"]
        bottom = ["b", None, "a", None, "c", None, "a"]
        layout = self.check_laid(made(top, bottom, bends=[(1, "a"), (3, "a"), (5, "a")], wide=[("a", 2)]), True)
        self.assertEqual(layout.pieces[:4], [("a", 0, 1, 2), ("a", 1, 3, 2), ("a", 3, 5, 2), ("a", 5, 6, 2)])
        self.assertEqual((layout.tracks, layout.count), ([0, 3, 0, 3, 2, 2], 5))

    def test_none_where_no_bend_is_told(self):
        refusal = self.check_none(ringed())
        self.assertEqual(refusal.pieces, [(None, 0, 0, 2), ("a", 0, 1, 1), ("b", 0, 1, 1)])
        self.assertEqual(sorted(refusal.ring), [(1, 2, 0), (2, 1, 1)])

    def test_none_where_the_bends_do_not_help(self):
        refusal = self.check_none(ringed_though_bent())
        self.assertEqual(refusal.pieces, [("a", 0, 2, 1), ("a", 2, 3, 1), ("b", 0, 1, 1)])
        self.assertEqual(sorted(refusal.ring), [(0, 2, 0), (2, 0, 1)])

    def test_a_ring_of_three_nets(self):
        self.assertEqual(len(self.check_none(made(["a", "b", "c"], ["b", "c", "a"])).ring), 3)

    def test_no_net_at_all(self):
        for columns in (1, 40):
            layout = self.check_laid(made([None] * columns, [None] * columns), False)
            self.assertEqual((layout.pieces, layout.above, layout.tracks, layout.count), ([], [], [], 0))

    def test_nets_of_two_facing_pins_alone(self):
        layout = self.check_laid(made(["a", None, "b"], ["a", None, "b"], wide=[("b", 3)]), False)
        self.assertEqual((layout.pieces, layout.tracks, layout.count), ([], [], 0))

    def test_keeps_alone(self):
        layout = self.check_laid(made([None] * 4, [None] * 4, keeps=[(0, 2, 2), (2, 3, 1), (3, 3, 2)]), False)
        self.assertEqual(layout.pieces, [(None, 0, 2, 2), (None, 2, 3, 1), (None, 3, 3, 2)])
        self.assertEqual((layout.above, layout.tracks, layout.count), ([], [0, 2, 0], 3))

    def test_keeps_lie_above_the_nets(self):
        layout = self.check_laid(made(["a", None, "a"], [None] * 3, keeps=[(1, 1, 3)]), False)
        self.assertEqual((layout.above, layout.tracks, layout.count), ([(0, 1, 1)], [0, 3], 4))

    def test_many(self):
        kinds = {"straight": 0, "bent": 0, "none": 0}
        for channel in good_channels(300) + tangled_channels(300):
            with self.subTest(vars(channel)):
                rings = []
                for with_bends in (False, True):
                    pieces = pieces_of(channel, with_bends)
                    rings.append(ranked(len(pieces), above_of(channel, pieces))[0] == "ring")
                kinds["none" if rings[1] else "bent" if rings[0] else "straight"] += 1
                if rings[1]:
                    self.check_none(channel)
                else:
                    self.check_laid(channel, rings[0])
        self.assertGreater(min(kinds.values()), 20, kinds)

    def test_where_there_is_none_fewer_bends_are_no_help_either(self):
        tried = 0
        for channel in good_channels(400, seed=2):
            pieces = pieces_of(channel, True)
            if len(channel.bends) < 7 and ranked(len(pieces), above_of(channel, pieces))[0] == "ring":
                for size in range(len(channel.bends) + 1):
                    for bends in itertools.combinations(channel.bends, size):
                        other = copy.deepcopy(channel)
                        other.bends = list(bends)
                        self.check_none(other)
                        tried += 1
        self.assertGreater(tried, 100)

    def test_changing_a_layout_changes_no_later_answer_and_no_channel(self):
        for channel in (straight(), bent()):
            before = copy.deepcopy(vars(channel))
            first = laid(channel)
            due = copy.deepcopy((first.bent, first.pieces, first.above, first.tracks, first.count))
            for field in (first.pieces, first.above, first.tracks):
                field.clear()
            for field in vars(first.channel).values():
                field.clear()
            self.assertEqual(vars(channel), before)
            again = laid(channel)
            self.assertEqual((again.bent, again.pieces, again.above, again.tracks, again.count), due)
            self.assertEqual(vars(again.channel), before)

    def test_changing_the_channel_changes_no_layout(self):
        channel = straight()
        layout = laid(channel)
        channel.top[0] = "z"
        channel.bends.clear()
        self.assertEqual(vars(layout.channel), vars(straight()))

    def test_changing_a_refusal_changes_no_later_answer(self):
        channel = ringed()
        refusal = self.check_none(channel)
        refusal.pieces.clear()
        refusal.ring.clear()
        self.check_none(channel)


class RingOfTest(LaidCase):
    def test_none_where_there_are_levels(self):
        for channel in (straight(), made([None], [None]), made(["a"], ["a"]), made([None], [None], keeps=[(0, 0, 1)])):
            self.assertIsNone(self.check_ring_of(channel))

    def test_of_the_pieces_that_are_not_bent(self):
        self.assertEqual(sorted(self.check_ring_of(ringed())), [(1, 2, 0), (2, 1, 1)])
        self.assertEqual(sorted(self.check_ring_of(ringed_though_bent())), [(0, 1, 0), (1, 0, 1)])

    def test_also_where_there_is_a_bent_layout(self):
        self.assertEqual(sorted(self.check_ring_of(bent())), [(0, 1, 0), (1, 0, 2)])
        self.check_laid(bent(), True)

    def test_many(self):
        channels = good_channels(200) + tangled_channels(200)
        first = [self.check_ring_of(channel) for channel in channels]
        self.assertGreater(len([ring for ring in first if ring is None]), 50)
        self.assertGreater(len([ring for ring in first if ring is not None]), 50)
        again = [ring_of(channel) for channel in reversed(good_channels(200) + tangled_channels(200))]
        self.assertEqual(list(reversed(again)), first)

    def test_changing_a_ring_changes_no_later_answer(self):
        channel = bent()
        due = list(ring_of(channel))
        ring_of(channel).clear()
        self.assertEqual(ring_of(channel), due)


class RefusedTest(LaidCase):
    def check_refused(self, channel, refusal, **fields):
        before = copy.deepcopy(vars(channel))
        for ask in (laid, ring_of):
            self.assertEqual(vars(self.refused(refusal, fields, ask, channel)), fields)
        self.assertEqual(vars(channel), before)

    def test_lone(self):
        self.check_refused(made(["a", "b"], [None, "b"]), Lone, word="a")
        self.check_refused(made(["b", "a"], [None, "b"], right=["c"]), Lone, word="a")

    def test_no_net(self):
        self.check_refused(made(["a"], ["a"], wide=[("b", 2)]), NoNet, word="b")
        self.check_refused(made(["a"], ["a"], bends=[(0, "b")]), NoNet, word="b")

    def test_bad_bend(self):
        self.check_refused(made(["a", None, "a"], [None] * 3, bends=[(1, "a"), (2, "a")]), BadBend, column=2)
        self.check_refused(made(["a", "b", "a"], [None, "b", None], bends=[(1, "a")]), BadBend, column=1)

    def test_bad_keep(self):
        self.check_refused(made(["a"], ["a"], keeps=[(0, 0, 1), (0, 1, 1)]), BadKeep, place=1)
        self.check_refused(made(["a"], ["a"], keeps=[(0, 0, 4)]), BadKeep, place=0)

    def test_of_a_channel_that_has_a_ring_too(self):
        channel = ringed()
        channel.keeps.append((1, 0, 1))
        self.check_refused(channel, BadKeep, place=1)
        channel.left.append("z")
        self.check_refused(channel, Lone, word="z")


if __name__ == "__main__":
    unittest.main()
