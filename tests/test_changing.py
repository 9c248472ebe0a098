import inspect
import random
import unittest

from making import (
    AskingCase, columns_of, good_channels, is_ring, made, plain, some_net, sound_layouts, spoil, tangled_channels,
    tracks_of, with_tracks,
)
from wirechannel.above import above_of
from wirechannel.changing import closed, moves_of, put_in, take_out
from wirechannel.checking import checked_channel
from wirechannel.drawing import drawn
from wirechannel.errors import BadBend, Lone, NoLayout, NoNet, PinTaken, Taken, WireError
from wirechannel.layouts import Layout, fault_of, laid
from wirechannel.packing import count_of
from wirechannel.pieces import pieces_of
from wirechannel.tracing import groups_of, traced

HUGE = 10 ** 29


# Point 23: the lists of the channel with one net more.
def due_lists(channel, name, pins, left, right, width):
    lists = plain(channel)
    for side, column in pins:
        lists[side][column] = name
    lists["left"] = sorted(lists["left"] + [name] * left)
    lists["right"] = sorted(lists["right"] + [name] * right)
    if width in (2, 3):
        lists["wide"] = sorted(lists["wide"] + [(name, width)])
    return lists


# Point 24, track by track: the tracks of all pieces, of which x is the new one.
def due_tracks(pieces, above, x, given):
    held = dict(zip([number for number in range(len(pieces)) if number != x], given))
    taken = {number: tracks_of(pieces[number], track) for number, track in held.items()}
    uppers = {p for p, q, column in above if q == x}
    a = max([max(taken[p]) + 1 for p in uppers], default=0)
    last = max([max(own) for own in taken.values()], default=0)
    for t in range(a, last + 2):
        if fits_at(pieces, above, x, t, held, taken):
            held[x] = t
            return [held[number] for number in range(len(pieces))]
    s = a
    while any({s - 1, s} <= own for own in taken.values()):
        s += 1
    belows = all_below(above, x)
    ahead = [held[number] for number in belows if held[number] < s]
    step = pieces[x][3] + (s - min(ahead) if ahead else 0)
    moved = {number: track + step * (number in belows or track >= s) for number, track in held.items()}
    moved[x] = s
    return [moved[number] for number in range(len(pieces))]


def fits_at(pieces, above, x, t, held, taken):
    own = tracks_of(pieces[x], t)
    for number, others in taken.items():
        if own & others and columns_of(pieces[number]) & columns_of(pieces[x]):
            return False
    return all(max(own) < held[q] for p, q, column in above if p == x)


def all_below(above, x):
    belows = set()
    while True:
        more = {q for p, q, column in above if p == x or p in belows}
        if more == belows:
            return belows
        belows = more


class LayoutCase(AskingCase):
    # A Layout of just these lists and tracks, sound, and drawn so that it joins its nets.
    def check_layout(self, layout, lists, bent, tracks):
        self.assertIs(type(layout), Layout)
        self.assertEqual(plain(layout.channel), lists)
        self.assertIs(checked_channel(layout.channel), True)
        self.assertIs(layout.bent, bent)
        self.assertEqual(layout.pieces, pieces_of(layout.channel, bent))
        self.assertEqual(layout.above, above_of(layout.channel, layout.pieces))
        self.assertEqual(layout.tracks, tracks)
        self.assertEqual({type(track) for track in layout.tracks} - {int}, set())
        self.assertEqual(layout.count, count_of(layout.pieces, tracks))
        self.assertIsNone(fault_of(layout.pieces, layout.above, layout.tracks))

    def check_sound(self, layout):
        self.assertIsNone(fault_of(layout.pieces, layout.above, layout.tracks))

    def check_put(self, layout, net, tracks):
        self.check_sound(layout)
        told = self.asked(put_in, layout, *net)
        name, pins, left, right, width = (list(net) + [False, False, 1][len(net) - 2:])
        self.check_layout(told, due_lists(layout.channel, name, pins, left, right, width), layout.bent, tracks)
        numbers = [number for number, piece in enumerate(told.pieces) if piece[0] == name]
        others = [piece for piece in told.pieces if piece[0] != name]
        self.assertEqual(others, layout.pieces)
        due = layout.tracks
        if numbers:
            due = due_tracks(told.pieces, told.above, numbers[0], layout.tracks)
        self.assertEqual(told.tracks, due)
        self.assertEqual(traced(drawn(told)), groups_of(told))
        return told


def top(*columns):
    return [("top", column) for column in columns]


def bottom(*columns):
    return [("bottom", column) for column in columns]


class SignatureTest(unittest.TestCase):
    def test_arguments_and_defaults(self):
        self.assertEqual(str(inspect.signature(put_in)), "(layout, name, pins, left=False, right=False, width=1)")
        self.assertEqual(str(inspect.signature(take_out)), "(layout, name)")
        self.assertEqual(str(inspect.signature(closed)), "(layout)")
        self.assertEqual(str(inspect.signature(moves_of)), "(before, after)")

    def test_arguments_by_their_names(self):
        layout = laid(made([None] * 2, [None] * 2))
        told = put_in(layout=layout, name="a", pins=top(1), left=True, right=False, width=2)
        self.assertEqual(told.pieces, [("a", -1, 1, 2)])
        told = put_in(layout, "a", top(1), right=True)
        self.assertEqual(told.pieces, [("a", 1, 2, 1)])
        told = put_in(layout, "a", top(0, 1), width=3)
        self.assertEqual(told.pieces, [("a", 0, 1, 3)])


class NoStretchTest(LayoutCase):
    def test_nothing_moves(self):
        layout = laid(made(["a", None, "a"], [None] * 3))
        self.check_put(layout, ("b", top(1) + bottom(1)), [0])

    def test_a_name_ahead_of_others(self):
        layout = with_tracks(made(["b", None, "b"], ["c", None, "c"], keeps=[(1, 1, 1)]), False, [0, 2, 5])
        self.check_put(layout, ("a", bottom(1) + top(1)), [0, 2, 5])

    def test_into_an_empty_channel(self):
        self.check_put(laid(made([None], [None])), ("a", top(0) + bottom(0)), [])

    def test_a_width_is_told_where_there_is_no_stretch(self):
        told = self.check_put(laid(made([None], [None])), ("a", top(0) + bottom(0), False, False, 3), [])
        self.assertEqual(told.channel.wide, [("a", 3)])


def rows(*pairs):
    return [list(side) for side in zip(*pairs)]


class FreePlaceTest(LayoutCase):
    def test_into_an_empty_channel(self):
        self.check_put(laid(made([None] * 3, [None] * 3)), ("a", top(0, 2)), [0])

    def test_beside_another_on_its_track(self):
        layout = laid(made(["a", "a", None, None], [None] * 4))
        self.check_put(layout, ("b", top(2, 3)), [0, 0])
        layout = laid(made([None, None, "b", "b"], [None] * 4))
        self.check_put(layout, ("a", bottom(0, 1)), [0, 0])

    def test_the_first_one_between_others(self):
        layout = with_tracks(made(["a", "c", "a", "c", None, None], [None] * 6), False, [0, 3])
        self.check_put(layout, ("b", top(4) + bottom(0)), [0, 1, 3])

    def test_ahead_of_all(self):
        layout = with_tracks(made(["a", "a", None], [None] * 3), False, [2])
        self.check_put(layout, ("b", bottom(2), True), [2, 0])

    def test_behind_all(self):
        layout = laid(made(["a", "c", "a", "c", None, None], [None] * 6))
        self.assertEqual(layout.tracks, [0, 1])
        self.check_put(layout, ("b", top(4), True), [0, 2, 1])

    def test_not_ahead_of_a_piece_that_must_lie_above(self):
        layout = with_tracks(made(["a", "a", None], [None] * 3), False, [2])
        self.check_put(layout, ("b", bottom(1, 2)), [2, 3])

    def test_behind_all_tracks_of_a_wide_piece_that_must_lie_above(self):
        for width in (2, 3):
            layout = with_tracks(made(["a", "a", None], [None] * 3, wide=[("a", width)]), False, [1])
            self.check_put(layout, ("b", bottom(1, 2)), [1, 1 + width])

    def test_behind_the_last_of_several_that_must_lie_above(self):
        layout = with_tracks(made(["a", "a", "c", "c", None], [None] * 5), False, [4, 1])
        self.check_put(layout, ("b", bottom(1, 2)), [4, 5, 1])

    def test_the_next_free_one_behind_what_must_lie_above(self):
        layout = with_tracks(made(["a", "a", "c", "c", None], [None] * 5), False, [0, 1])
        self.check_put(layout, ("b", bottom(1), False, True), [0, 2, 1])

    def test_pieces_that_only_touch_a_column(self):
        layout = with_tracks(made(["a", None, "a", None, None], [None] * 5), False, [0])
        self.check_put(layout, ("b", bottom(2, 4)), [0, 1])
        layout = with_tracks(made(["a", None, "a", None, None], [None] * 5), False, [1])
        self.check_put(layout, ("b", bottom(3, 4)), [1, 0])

    def test_limited_by_what_must_lie_below(self):
        layout = with_tracks(made([None, None, None], ["b", None, "b"]), False, [1])
        self.check_put(layout, ("a", top(0, 1)), [0, 1])

    def test_just_as_wide_as_what_is_free_above_what_must_lie_below(self):
        for width in (1, 2, 3):
            layout = with_tracks(made([None] * 3, ["b", None, "b"]), False, [3])
            self.check_put(layout, ("a", top(0, 1), False, False, width), [0, 3])

    def test_between_what_must_lie_above_and_what_must_lie_below(self):
        layout = with_tracks(made(["a", "a", None, None], [None, None, "c", "c"]), False, [0, 2])
        self.check_put(layout, ("b", bottom(1) + top(2)), [0, 1, 2])

    def test_between_others_just_as_wide_as_what_is_free(self):
        for width, track in ((1, 1), (2, 1), (3, 1)):
            layout = with_tracks(made(["a", "c", "a", "c", None], [None] * 5), False, [0, 4])
            self.check_put(layout, ("b", top(4), True, False, width), [0, track, 4])

    def test_too_wide_for_what_is_free_between_others(self):
        for width in (2, 3):
            layout = with_tracks(made(["a", "c", "a", "c", None], [None] * 5), False, [0, width])
            self.check_put(layout, ("b", top(4), True, False, width), [0, width + 1, width])

    def test_not_on_the_later_tracks_of_a_wide_piece(self):
        for width in (2, 3):
            layout = laid(made(["a", None, "a"], [None] * 3, wide=[("a", width)]))
            self.check_put(layout, ("b", bottom(1), True), [0, width])

    def test_not_on_the_tracks_of_a_keep(self):
        layout = laid(made([None] * 3, [None] * 3, keeps=[(1, 1, 2), (0, 0, 3)]))
        self.assertEqual(layout.tracks, [0, 0])
        self.check_put(layout, ("b", top(1, 2)), [0, 0, 2])
        self.check_put(layout, ("b", top(0, 2)), [0, 0, 3])
        self.check_put(layout, ("b", top(2), False, True), [0, 0, 0])

    def test_open_to_the_left_to_the_right_and_to_both(self):
        layout = laid(made([None, "a", None], [None, "a", None]))
        self.check_put(layout, ("b", top(0), True, False), [0])
        self.check_put(layout, ("b", top(0), False, True), [0])
        self.check_put(layout, ("b", [], True, True), [0])
        told = self.check_put(layout, ("b", top(0) + bottom(0), True, True, 2), [0])
        self.assertEqual(told.pieces, [("b", -1, 3, 2)])

    def test_one_to_the_left_and_one_to_the_right_on_one_track(self):
        layout = laid(made(["a", None, None], [None] * 3, left=["a"]))
        self.check_put(layout, ("b", top(1), False, True), [0, 0])
        self.check_put(layout, ("b", top(1), True, False), [0, 1])


class PartedTest(LayoutCase):
    def test_all_that_must_lie_below_moves(self):
        layout = laid(made([None, None, None], ["b", None, "b"]))
        for width in (1, 2, 3):
            self.check_put(layout, ("a", top(0, 1), False, False, width), [0, width])

    def test_all_from_that_track_on_moves_and_no_other_does(self):
        channel = made(["a", "a"] + [None] * 6, [None, None, "b", "b", None, "c", "c", None])
        layout = with_tracks(channel, False, [0, 1, 1])
        self.check_put(layout, ("x", bottom(1) + top(2)), [0, 2, 2, 1])

    def test_those_that_stay_ahead(self):
        channel = made(["a", "a", None, None, "c", "c"], [None, None, "b", "b", None, None])
        layout = with_tracks(channel, False, [1, 2, 0])
        self.check_put(layout, ("x", bottom(1) + top(2)), [1, 3, 0, 2])

    def test_behind_all_that_must_lie_above(self):
        layout = with_tracks(made(["a", "a", None, None], [None, None, "b", "b"]), False, [1, 2])
        for width in (1, 2, 3):
            self.check_put(layout, ("x", bottom(1) + top(2), False, False, width), [1, 2 + width, 2])

    def test_too_wide_for_what_is_free(self):
        layout = with_tracks(made(["a", "a", None, None], [None, None, "b", "b"]), False, [0, 2])
        self.check_put(layout, ("x", bottom(1) + top(2), False, False, 1), [0, 2, 1])
        self.check_put(layout, ("x", bottom(1) + top(2), False, False, 2), [0, 4, 1])
        self.check_put(layout, ("x", bottom(1) + top(2), False, False, 3), [0, 5, 1])

    def test_not_through_a_wide_piece(self):
        for width in (2, 3):
            channel = made(["a", "a"] + [None] * 5, [None, None, "b", "b", None, "c", "c"], wide=[("c", width)])
            layout = with_tracks(channel, False, [0, 1, 0])
            self.check_put(layout, ("x", bottom(1) + top(2)), [0, 1 + 1 + (width - 1), 0, width])

    def test_not_through_a_keep(self):
        channel = made(["a", "a"] + [None] * 5, [None, None, "b", "b", None, None, None], keeps=[(5, 6, 3)])
        layout = with_tracks(channel, False, [0, 0, 1])
        self.check_put(layout, ("x", bottom(1) + top(2)), [0, 0, 4, 3])

    def test_a_keep_behind_moves_too(self):
        channel = made([None] * 5, ["b", None, "b", None, None], keeps=[(4, 4, 2)])
        layout = with_tracks(channel, False, [0, 0])
        self.check_put(layout, ("a", top(0, 1)), [1, 0, 1])

    def test_where_one_wide_piece_ends_and_another_goes_through(self):
        channel = made(
            ["a", "a"] + [None] * 6, [None, None, "b", "b", "c", "c", "d", "d"], wide=[("c", 2), ("d", 3)]
        )
        layout = with_tracks(channel, False, [0, 1, 0, 1])
        self.check_put(layout, ("x", bottom(1) + top(2)), [0, 1 + 1 + 3, 0, 1, 4])
        layout = with_tracks(channel, False, [0, 1, 0, 2])
        self.check_put(layout, ("x", bottom(1) + top(2)), [0, 1 + 1 + 1, 0, 2 + 1 + 1, 2])

    def test_some_that_must_lie_below_begin_ahead(self):
        layout = with_tracks(made(["a", "a", None, None], [None, None, "b", "b"]), False, [2, 0])
        for width in (1, 2, 3):
            self.check_put(layout, ("x", bottom(1) + top(2), False, False, width), [2, 3 + width, 3])

    def test_the_least_of_those_that_begin_ahead(self):
        channel = made(["a", "a", None, None, None, None], [None, None, "b", "b", "c", "c"])
        layout = with_tracks(channel, False, [4, 3, 1])
        self.check_put(layout, ("x", bottom(1) + top(2, 4)), [4, 3 + 5, 1 + 5, 5])

    def test_all_that_move_move_by_the_more(self):
        channel = made(["a", "a"] + [None] * 6, [None, None, "b", "b", None, None, "c", "c"])
        layout = with_tracks(channel, False, [2, 0, 3])
        self.check_put(layout, ("x", bottom(1) + top(2)), [2, 4, 7, 3])

    def test_through_several_steps(self):
        channel = made(
            ["a", "a", None, "b", None, "c", None, None], [None, None, "b", "c", None, "d", "d", None]
        )
        layout = with_tracks(channel, False, [3, 0, 1, 2])
        self.check_put(layout, ("x", bottom(1) + top(2)), [3, 5, 6, 7, 4])

    def test_those_below_one_that_moves_but_not_below_the_new_one_stay(self):
        channel = made(["a", "a", None, None, "d", "d"], [None, None, "b", "b", None, None])
        layout = with_tracks(channel, False, [2, 0, 1])
        self.check_put(layout, ("x", bottom(1) + top(2)), [2, 4, 1, 3])

    def test_a_name_ahead_of_between_and_behind_all(self):
        layout = laid(made([None, "b", "b", None], ["d", None, "d", None]))
        self.assertEqual(layout.tracks, [0, 1])
        self.check_put(layout, ("a", bottom(1) + top(0)), [1, 0, 2])
        self.check_put(layout, ("c", bottom(1) + top(0)), [0, 1, 2])
        self.check_put(layout, ("e", bottom(1) + top(0)), [0, 2, 1])

    def test_open_sides(self):
        layout = laid(made([None] * 3, [None, "b", None], left=["b"], right=["b"]))
        self.check_put(layout, ("a", top(1), True, False), [0, 1])
        self.check_put(layout, ("a", top(1), False, True, 2), [0, 2])
        self.check_put(layout, ("a", top(1), True, True, 3), [0, 3])

    def test_far_down(self):
        channel = made(["a", "a", None, None], [None, None, "b", "b"])
        pieces = pieces_of(channel)
        layout = Layout(channel, False, pieces, above_of(channel, pieces), [HUGE, 5])
        told = put_in(layout, "x", bottom(1) + top(2))
        self.assertEqual(told.tracks, [HUGE, HUGE + 2, HUGE + 1])
        self.assertEqual(put_in(layout, "x", top(2, 3)).tracks, [HUGE, 5, 0])
        self.assertEqual(put_in(layout, "x", bottom(0, 1)).tracks, [HUGE, 5, HUGE + 1])
        self.assertEqual(closed(told).tracks, [0, 2, 1])


class BentPutTest(LayoutCase):
    # a over b at column 0, b over a at column 4: so a is bent.
    def channel(self):
        return made(["a", None, None, None, "b"], ["b", None, None, None, "a"], bends=[(1, "a"), (2, "a")])

    def test_stays_bent(self):
        layout = laid(self.channel())
        self.assertTrue(layout.bent)
        self.assertEqual([piece[1:3] for piece in layout.pieces], [(0, 1), (1, 2), (2, 4), (0, 4)])
        told = self.check_put(layout, ("c", top(3) + bottom(3)), layout.tracks)
        self.assertIs(told.bent, True)

    def test_a_free_place(self):
        layout = with_tracks(self.channel(), True, [0, 0, 2, 1])
        self.check_put(layout, ("c", bottom(3), False, True), [0, 0, 2, 1, 0])

    def test_a_bent_net_is_parted(self):
        layout = with_tracks(self.channel(), True, [0, 0, 2, 1])
        layout = put_in(layout, "d", bottom(3), False, True)
        self.assertEqual(layout.tracks, [0, 0, 2, 1, 0])
        self.check_put(layout, ("c", top(3), True), [1, 1, 3, 2, 0, 1])

    def test_bent_where_straight_would_do(self):
        channel = made(["a", None, "a", None], [None] * 4, bends=[(1, "a")])
        layout = with_tracks(channel, True, [0, 1])
        told = self.check_put(layout, ("b", bottom(2, 3)), [0, 1, 2])
        self.assertIs(told.bent, True)

    def test_straight_where_bends_are_told(self):
        channel = made(["a", None, "a", None], [None] * 4, bends=[(1, "a")])
        told = self.check_put(laid(channel), ("b", bottom(2, 3)), [0, 1])
        self.assertIs(told.bent, False)

    def test_no_layout_where_bending_would_do(self):
        channel = made(["a", None, None], [None, None, "a"], bends=[(1, "a")])
        self.assertEqual(put_in(with_tracks(channel, True, [0, 1]), "b", bottom(0) + top(2)).tracks, [0, 2, 1])
        refusal = self.refused(NoLayout, ["pieces", "ring"], put_in, laid(channel), "b", bottom(0) + top(2))
        self.assertEqual(refusal.pieces, [("a", 0, 2, 1), ("b", 0, 2, 1)])


class NewChannelTest(LayoutCase):
    def layout(self):
        return laid(made(
            ["c", None, "e", None, "c", None], [None, None, None, "e", None, "c"], left=["c"], right=["e"],
            wide=[("c", 2), ("e", 3)], bends=[(4, "c")], keeps=[(3, 3, 1), (0, 1, 2)],
        ))

    def test_seven_lists(self):
        told = put_in(self.layout(), "d", [("bottom", 4), ("top", 1)], True, True, 2)
        self.assertEqual(told.channel.top, ["c", "d", "e", None, "c", None])
        self.assertEqual(told.channel.bottom, [None, None, None, "e", "d", "c"])
        self.assertEqual(told.channel.left, ["c", "d"])
        self.assertEqual(told.channel.right, ["d", "e"])
        self.assertEqual(told.channel.wide, [("c", 2), ("d", 2), ("e", 3)])
        self.assertEqual(told.channel.bends, [(4, "c")])
        self.assertEqual(told.channel.keeps, [(3, 3, 1), (0, 1, 2)])

    def test_ahead_of_and_behind_all_names(self):
        told = put_in(self.layout(), "a", [("top", 1)], True, True, 3)
        self.assertEqual((told.channel.left, told.channel.right), (["a", "c"], ["a", "e"]))
        self.assertEqual(told.channel.wide, [("a", 3), ("c", 2), ("e", 3)])
        told = put_in(self.layout(), "f", [("top", 1)], True, True, 3)
        self.assertEqual((told.channel.left, told.channel.right), (["c", "f"], ["e", "f"]))
        self.assertEqual(told.channel.wide, [("c", 2), ("e", 3), ("f", 3)])

    def test_a_width_of_one_and_closed_sides_are_not_told(self):
        told = put_in(self.layout(), "d", [("top", 1), ("top", 3)])
        self.assertEqual((told.channel.left, told.channel.right), (["c"], ["e"]))
        self.assertEqual(told.channel.wide, [("c", 2), ("e", 3)])

    def test_all_places_of_a_channel(self):
        told = put_in(laid(made([None] * 3, [None] * 3)), "a", top(2, 0, 1) + bottom(1, 2, 0), True, True)
        self.assertEqual((told.channel.top, told.channel.bottom), (["a"] * 3, ["a"] * 3))

    def test_the_twenty_fourth_name(self):
        names = [first + second for first in "abcd" for second in "abcdef"]
        layout = laid(made(names[:23] + [None] * 2, names[:23] + [None] * 2))
        told = self.check_put(layout, (names[23], top(23) + bottom(24)), [0])
        self.assertEqual(len(set(told.channel.top) - {None}), 24)


class PutRefusedTest(LayoutCase):
    def layout(self):
        return laid(made(["a", None, "b", None, None], [None, "a", None, "b", None]))

    def test_taken(self):
        layout = self.layout()
        for name in ("a", "b"):
            self.assertEqual(self.refused(Taken, ["word"], put_in, layout, name, top(3, 4)).word, name)

    def test_taken_by_an_open_end_or_a_net_without_a_stretch(self):
        layout = laid(made([None, "c", None], [None, "c", None], left=["a"], right=["a"]))
        for name in ("a", "c"):
            self.assertEqual(self.refused(Taken, ["word"], put_in, layout, name, top(0, 2)).word, name)

    def test_taken_goes_ahead_of_all(self):
        layout = self.layout()
        for pins in (top(-1), top(0, 0), top(HUGE), top(4), [("top", 4), ("top", 4)], bottom(3)):
            self.assertEqual(self.refused(Taken, ["word"], put_in, layout, "a", pins).word, "a")

    def check_pin(self, pins, pin, *more):
        self.assertEqual(self.refused(PinTaken, ["pin"], put_in, self.layout(), "c", pins, *more).pin, pin)

    def test_a_column_that_is_none_of_the_channels(self):
        for column in (-1, 5, -2, -5, -6, 6, 40, HUGE, -HUGE, 10 * HUGE, -10 * HUGE):
            for side in ("top", "bottom"):
                self.check_pin([("top", 4), (side, column)], (side, column))
                self.check_pin([(side, column)], (side, column))

    def test_numbers_too_long_to_be_written(self):
        for column in (10 ** 5000, -10 ** 5000):
            refusal = self.refused(PinTaken, ["pin"], put_in, self.layout(), "c", top(4, column))
            self.assertTrue(refusal.pin == ("top", column))
            self.assertNotEqual(str(refusal), "")

    def test_a_place_that_has_a_pin(self):
        self.check_pin(top(4, 0), ("top", 0))
        self.check_pin(top(0, 4), ("top", 0))
        self.check_pin(bottom(0) + bottom(1), ("bottom", 1))
        self.check_pin(top(2, 1), ("top", 2))
        self.check_pin(bottom(3), ("bottom", 3))

    def test_a_place_across_a_pin_is_free(self):
        self.check_put(self.layout(), ("c", bottom(0) + top(4)), [0, 0, 1])

    def test_a_pin_that_comes_a_second_time(self):
        self.check_pin(top(3, 3), ("top", 3))
        self.check_pin(top(3, 4, 3), ("top", 3))
        self.check_pin(top(4) + bottom(4) + bottom(4), ("bottom", 4))

    def test_the_first_that_fits(self):
        self.check_pin(top(3, 0, 3), ("top", 0))
        self.check_pin(top(3, -1, 3), ("top", -1))
        self.check_pin(top(3, 3, -1), ("top", 3))
        self.check_pin(top(5, 0), ("top", 5))
        self.check_pin(top(0, 5), ("top", 0))
        self.check_pin(bottom(-1) + top(-1), ("bottom", -1))
        self.check_pin(top(2, 2), ("top", 2))

    def test_ahead_of_what_the_check_refuses(self):
        self.check_pin(top(5), ("top", 5))
        layout = laid(made(["a", None, "a"], [None] * 3, bends=[(1, "a")]))
        self.assertEqual(self.refused(PinTaken, ["pin"], put_in, layout, "c", top(1, 3)).pin, ("top", 3))
        self.assertEqual(self.refused(PinTaken, ["pin"], put_in, layout, "c", top(1, 0)).pin, ("top", 0))

    def test_one_end(self):
        layout = self.layout()
        for net in (
            ("c", top(4)), ("c", bottom(4)), ("c", [], True), ("c", [], False, True), ("c", top(3), False, False, 3)
        ):
            self.assertEqual(self.refused(Lone, ["word"], put_in, layout, *net).word, "c")

    def test_a_pin_where_another_net_is_bent(self):
        layout = laid(made(["a", None, None, "a", None], [None] * 5, bends=[(1, "a"), (2, "a")]))
        for pins, column in ((top(1, 4), 1), (bottom(2, 4), 2), (top(2, 1), 1), (bottom(2) + top(2), 2)):
            self.assertEqual(self.refused(BadBend, ["column"], put_in, layout, "b", pins).column, column)

    def test_a_pin_across_one_of_a_net_that_is_bent(self):
        layout = laid(made(["a", None, "a", None], [None, "a", None, None], bends=[(1, "a")]))
        self.check_put(layout, ("b", top(1, 3)), [1, 0])

    def test_one_end_goes_ahead_of_a_bend(self):
        layout = laid(made(["a", None, "a"], [None] * 3, bends=[(1, "a")]))
        self.assertEqual(self.refused(Lone, ["word"], put_in, layout, "b", top(1)).word, "b")

    def test_a_bend_goes_ahead_of_a_ring(self):
        layout = laid(made(["a", None, "a", None], [None, None, "c", "c"], bends=[(1, "a")]))
        self.assertEqual(
            self.refused(BadBend, ["column"], put_in, layout, "b", bottom(0) + top(1, 3)).column, 1
        )

    def check_no_layout(self, layout, net, pieces, length):
        refusal = self.refused(NoLayout, ["pieces", "ring"], put_in, layout, *net)
        self.assertEqual(refusal.pieces, pieces)
        self.assertIs(type(refusal.pieces), list)
        lists = due_lists(layout.channel, net[0], net[1], *(list(net[2:]) + [False, False, 1][len(net) - 2:]))
        above = above_of(made(**lists), pieces)
        self.assertTrue(is_ring(refusal.ring, above))
        self.assertIs(type(refusal.ring), list)
        self.assertEqual(len(refusal.ring), length)
        spoil(refusal.pieces)
        spoil(refusal.ring)
        again = self.refused(NoLayout, ["pieces", "ring"], put_in, layout, *net)
        self.assertEqual(again.pieces, pieces)

    def test_a_ring_of_two(self):
        layout = laid(made(["a", None], [None, "a"], keeps=[(1, 1, 1)]))
        pieces = [(None, 1, 1, 1), ("a", 0, 1, 1), ("b", 0, 1, 1)]
        self.check_no_layout(layout, ("b", bottom(0) + top(1)), pieces, 2)
        pieces = [(None, 1, 1, 1), ("a", 0, 1, 1), ("b", -1, 1, 3)]
        self.check_no_layout(layout, ("b", bottom(0) + top(1), True, False, 3), pieces, 2)

    def test_a_ring_of_three(self):
        layout = laid(made([None, "a", "c"], ["a", "c", None]))
        pieces = [("a", 0, 1, 1), ("b", 0, 2, 1), ("c", 1, 2, 1)]
        self.check_no_layout(layout, ("b", top(0) + bottom(2)), pieces, 3)

    def test_a_ring_of_bent_pieces(self):
        layout = laid(made(["a", None, "b", "c", None], ["b", None, "a", None, "c"], bends=[(1, "a")]))
        self.assertTrue(layout.bent)
        pieces = [("a", 0, 1, 1), ("a", 1, 2, 1), ("b", 0, 2, 1), ("c", 3, 4, 1), ("d", 3, 4, 2)]
        self.check_no_layout(layout, ("d", bottom(3) + top(4), False, False, 2), pieces, 2)


class TakeOutTest(LayoutCase):
    def check_out(self, layout, name, lists, tracks):
        self.check_sound(layout)
        told = self.asked(take_out, layout, name)
        self.check_layout(told, lists, layout.bent, tracks)
        return told

    def test_seven_lists(self):
        layout = laid(made(
            ["c", "d", "e", None, "c"], ["e", None, None, "d", None], left=["c", "d"], right=["d", "e"],
            wide=[("c", 2), ("d", 3)], bends=[(1, "d"), (2, "e")], keeps=[(3, 3, 1), (0, 1, 2)],
        ))
        self.check_out(layout, "d", plain(made(
            ["c", None, "e", None, "c"], ["e", None, None, None, None], left=["c"], right=["e"], wide=[("c", 2)],
            bends=[(2, "e")], keeps=[(3, 3, 1), (0, 1, 2)],
        )), [track for piece, track in zip(layout.pieces, layout.tracks) if piece[0] != "d"])

    def test_all_others_stay_on_their_tracks(self):
        layout = with_tracks(made(["a", "b", "c", "a", "b", "c"], [None] * 6), False, [1, 3, 7])
        lists = plain(layout.channel)
        self.check_out(layout, "a", {**lists, "top": [None, "b", "c", None, "b", "c"]}, [3, 7])
        self.check_out(layout, "b", {**lists, "top": ["a", None, "c", "a", None, "c"]}, [1, 7])
        told = self.check_out(layout, "c", {**lists, "top": ["a", "b", None, "a", "b", None]}, [1, 3])
        self.assertEqual(told.count, 4)

    def test_what_lay_between_is_not_closed(self):
        layout = laid(made(["a", "a", None], [None, "b", "b"]))
        self.assertEqual(layout.tracks, [0, 1])
        lists = plain(layout.channel)
        self.check_out(layout, "a", {**lists, "top": [None] * 3}, [1])

    def test_a_net_without_a_stretch(self):
        layout = laid(made(["a", "b", "a"], [None, "b", None], wide=[("b", 2)]))
        self.check_out(layout, "b", plain(made(["a", None, "a"], [None] * 3)), [0])

    def test_the_last_net(self):
        empty = plain(made([None] * 2, [None] * 2))
        self.check_out(laid(made(["a", None], [None, "a"])), "a", empty, [])
        layout = laid(made([None] * 2, [None] * 2, left=["a"], right=["a"], wide=[("a", 3)], keeps=[(0, 1, 2)]))
        self.check_out(layout, "a", {**empty, "keeps": [(0, 1, 2)]}, [0])

    def test_bent_stays_bent(self):
        channel = made(["a", None, "b", None], ["b", None, "a", "a"], bends=[(1, "a"), (2, "a")])
        layout = with_tracks(channel, True, [0, 3, 2, 1])
        self.check_out(layout, "b", plain(made(
            ["a", None, None, None], [None, None, "a", "a"], bends=[(1, "a"), (2, "a")]
        )), [0, 3, 2])
        told = self.check_out(layout, "a", plain(made([None, None, "b", None], ["b", None, None, None])), [1])
        self.assertIs(told.bent, True)

    def test_what_was_not_bent_stays_so(self):
        channel = made(["a", None, "a"], ["b", None, "b"], bends=[(1, "a")])
        told = self.check_out(laid(channel), "b", {**plain(channel), "bottom": [None] * 3}, [0])
        self.assertIs(told.bent, False)

    def test_a_name_without_an_end(self):
        layout = laid(made(["a", "b", "a"], [None, "b", None], keeps=[(0, 0, 1)]))
        for name in ("c", "aa", "zzzzzz", "top", "keep"):
            self.assertEqual(self.refused(NoNet, ["word"], take_out, layout, name).word, name)
        self.assertEqual(self.refused(NoNet, ["word"], take_out, take_out(layout, "a"), "a").word, "a")
        self.assertEqual(self.refused(NoNet, ["word"], take_out, laid(made([None], [None])), "a").word, "a")

    def test_behind_put_in_where_nothing_moved(self):
        layout = with_tracks(made(["a", "c", "a", "c", None], [None] * 5, keeps=[(1, 2, 1)]), False, [0, 1, 4])
        told = put_in(layout, "b", top(4), True, False, 2)
        self.assertEqual(told.tracks, [0, 1, 2, 4])
        back = take_out(told, "b")
        self.assertEqual(plain(back), plain(layout))

    def test_behind_put_in_where_something_moved(self):
        layout = laid(made([None, None, None], ["b", None, "b"]))
        back = take_out(put_in(layout, "a", top(0, 1)), "a")
        self.assertEqual(plain(back.channel), plain(layout.channel))
        self.assertEqual(back.tracks, [1])


class ClosedTest(LayoutCase):
    def check_closed(self, channel, bent, tracks, due):
        layout = with_tracks(channel, bent, tracks)
        self.check_sound(layout)
        told = self.asked(closed, layout)
        self.check_layout(told, plain(channel), bent, due)
        self.assertEqual(plain(closed(told)), plain(told))

    def test_free_tracks_ahead_of_all(self):
        self.check_closed(made(["a", "a"], [None] * 2), False, [3], [0])

    def test_free_tracks_between(self):
        channel = made(["a", "a", "b", "b"], [None] * 4)
        self.check_closed(channel, False, [0, 4], [0, 1])
        self.check_closed(channel, False, [4, 0], [1, 0])

    def test_free_tracks_ahead_and_between(self):
        channel = made(["a", "b", "c", "a", "b", "c"], [None] * 6)
        self.check_closed(channel, False, [9, 2, 5], [2, 0, 1])

    def test_none_free(self):
        channel = made(["a", "b", "c", "a", "b", "c"], [None] * 6)
        self.check_closed(channel, False, [2, 0, 1], [2, 0, 1])

    def test_pieces_on_one_track_stay_on_one(self):
        self.check_closed(made(["a", "a", "b", "b"], [None] * 4), False, [2, 2], [0, 0])

    def test_all_tracks_of_a_wide_piece_are_taken(self):
        for width in (2, 3):
            channel = made(["a", "a", "b", "b"], [None] * 4, wide=[("a", width)])
            for track in range(1, width + 1):
                self.check_closed(channel, False, [0, track], [0, track])
            self.check_closed(channel, False, [1, 5], [0, width])
            self.check_closed(channel, False, [1, 1 + width], [0, width])

    def test_a_wide_piece_within_which_a_narrow_one_ends(self):
        channel = made(["a", "a", "b", "b", "c", "c"], [None] * 6, wide=[("a", 3)])
        self.check_closed(channel, False, [1, 2, 6], [0, 1, 3])
        self.check_closed(channel, False, [1, 1, 4], [0, 0, 3])

    def test_wide_pieces_that_begin_by_turns(self):
        channel = made(["a", "a", "b", "b", "c", "c"], [None] * 6, wide=[("a", 2), ("b", 3)])
        self.check_closed(channel, False, [1, 2, 6], [0, 1, 4])
        self.check_closed(channel, False, [4, 2, 0], [3, 1, 0])

    def test_a_keep_takes_its_tracks(self):
        channel = made(["a", "a", None], [None] * 3, keeps=[(2, 2, 3)])
        self.check_closed(channel, False, [0, 2], [0, 2])
        self.check_closed(channel, False, [0, 4], [0, 3])
        self.check_closed(channel, False, [3, 0], [1, 0])

    def test_no_pieces(self):
        self.check_closed(made([None], [None]), False, [], [])
        self.check_closed(made(["a"], ["a"]), True, [], [])

    def test_bent(self):
        channel = made(["a", None, "a"], [None, "a", None], bends=[(1, "a")])
        self.check_closed(channel, True, [5, 2], [1, 0])
        self.check_closed(channel, True, [2, 2], [0, 0])

    def test_far_down(self):
        channel = made(["a", "a", "b", "b"], [None] * 4, wide=[("a", 3)])
        pieces = pieces_of(channel)
        layout = Layout(channel, False, pieces, above_of(channel, pieces), [HUGE, 2 * HUGE])
        self.assertEqual(closed(layout).tracks, [0, 3])


class MovesTest(LayoutCase):
    def check_moves(self, before, after, moves):
        told = self.asked(moves_of, before, after)
        self.assertEqual(told, moves)
        self.assertIs(type(told), list)
        for move in told:
            self.assertIs(type(move), tuple)
            self.assertEqual([type(part) for part in move], [tuple, int, int])

    def test_no_piece_moved(self):
        layout = laid(made(["a", "b", "a", "b"], [None] * 4))
        self.check_moves(layout, layout, [])
        self.check_moves(layout, laid(made(["a", "b", "a", "b"], [None] * 4)), [])
        empty = laid(made([None], [None]))
        self.check_moves(empty, empty, [])
        self.check_moves(empty, layout, [])
        self.check_moves(layout, empty, [])

    def test_some_moved(self):
        channel = made(["a", "b", "c", "a", "b", "c"], [None] * 6, wide=[("b", 2)])
        before = with_tracks(channel, False, [0, 1, 3])
        after = with_tracks(channel, False, [0, 2, 1])
        self.check_moves(before, after, [(("b", 1, 4, 2), 1, 2), (("c", 2, 5, 1), 3, 1)])
        self.check_moves(before, with_tracks(channel, False, [5, 1, 3]), [(("a", 0, 3, 1), 0, 5)])
        self.check_moves(with_tracks(channel, False, [5, 1, 3]), before, [(("a", 0, 3, 1), 5, 0)])

    def test_behind_put_in(self):
        before = laid(made([None, None, None], ["b", None, "b"]))
        self.check_moves(before, put_in(before, "a", top(0, 1)), [(("b", 0, 2, 1), 0, 1)])
        self.check_moves(before, put_in(before, "a", top(1), False, True), [])

    def test_behind_take_out_and_closed(self):
        before = laid(made(["a", "a", None], [None, "b", "b"]))
        out = take_out(before, "a")
        self.check_moves(before, out, [])
        self.check_moves(before, closed(out), [(("b", 1, 2, 1), 1, 0)])

    def test_pieces_that_the_one_or_the_other_has_not(self):
        before = with_tracks(made(["a", "a", "b", "b"], [None] * 4), False, [0, 1])
        after = with_tracks(made([None, None, "b", "b"], ["c", "c", None, None]), False, [7, 5])
        self.check_moves(before, after, [(("b", 2, 3, 1), 1, 7)])
        self.check_moves(after, before, [(("b", 2, 3, 1), 7, 1)])

    def test_other_columns_or_another_width_make_another_piece(self):
        before = with_tracks(made(["a", "a", None], [None] * 3), False, [0])
        self.check_moves(before, with_tracks(made(["a", None, "a"], [None] * 3), False, [3]), [])
        self.check_moves(before, with_tracks(made([None, "a", "a"], [None] * 3), False, [3]), [])
        self.check_moves(before, with_tracks(made(["a", "a", None], [None] * 3, wide=[("a", 2)]), False, [3]), [])
        self.check_moves(before, with_tracks(made(["b", "b", None], [None] * 3), False, [3]), [])
        self.check_moves(before, with_tracks(made(["a", "a"], [None] * 2), False, [3]), [(("a", 0, 1, 1), 0, 3)])

    def test_alike_keeps_in_their_order(self):
        keep = (None, 0, 0, 1)
        channel = made([None], [None], keeps=[(0, 0, 1)] * 3)
        before = with_tracks(channel, False, [0, 1, 2])
        self.check_moves(before, with_tracks(channel, False, [1, 0, 2]), [(keep, 0, 1), (keep, 1, 0)])
        self.check_moves(before, with_tracks(channel, False, [2, 1, 5]), [(keep, 0, 2), (keep, 2, 5)])
        two = with_tracks(made([None], [None], keeps=[(0, 0, 1)] * 2), False, [4, 1])
        self.check_moves(before, two, [(keep, 0, 4)])
        self.check_moves(two, before, [(keep, 4, 0)])

    def test_alike_keeps_between_others(self):
        one = made([None], [None], keeps=[(0, 0, 1), (0, 0, 2), (0, 0, 1)])
        other = made([None], [None], keeps=[(0, 0, 2), (0, 0, 1), (0, 0, 1)])
        before = with_tracks(one, False, [0, 1, 3])
        after = with_tracks(other, False, [2, 0, 7])
        self.check_moves(before, after, [((None, 0, 0, 2), 1, 2), ((None, 0, 0, 1), 3, 7)])

    def test_in_the_order_of_befores_pieces(self):
        before = with_tracks(made([None] * 2, [None] * 2, keeps=[(1, 1, 1), (0, 0, 1)]), False, [0, 0])
        after = with_tracks(made([None] * 2, [None] * 2, keeps=[(0, 0, 1), (1, 1, 1)]), False, [3, 4])
        self.check_moves(before, after, [((None, 1, 1, 1), 0, 4), ((None, 0, 0, 1), 0, 3)])

    def test_pieces_of_a_bent_net(self):
        channel = made(["a", None, "a"], [None] * 3, bends=[(1, "a")])
        before = with_tracks(channel, True, [0, 1])
        self.check_moves(before, with_tracks(channel, True, [2, 1]), [(("a", 0, 1, 1), 0, 2)])
        self.check_moves(before, with_tracks(channel, False, [4]), [])


class ManyTest(LayoutCase):
    def many_layouts(self, seed):
        chance = random.Random(seed)
        for channel in good_channels(50, seed) + tangled_channels(90, seed):
            for layout in sound_layouts(channel, chance):
                yield layout, chance

    # What the document asks of this net: the tracks, or the refusal's class.
    def due_of(self, layout, net):
        name, pins, left, right, width = net
        if any(name in part for part in (layout.channel.top, layout.channel.bottom)):
            return Taken
        channel = made(**due_lists(layout.channel, *net))
        try:
            checked_channel(channel)
        except WireError as refusal:
            return type(refusal)
        pieces = pieces_of(channel, layout.bent)
        above = above_of(channel, pieces)
        numbers = [number for number, piece in enumerate(pieces) if piece[0] == name]
        if any(number in all_below(above, number) for number in range(len(pieces))):
            return NoLayout
        return due_tracks(pieces, above, numbers[0], layout.tracks) if numbers else layout.tracks

    def test_put_in(self):
        seen = {"no stretch": 0, "free": 0, "moved": 0, "moved by more": 0, "bent": 0, Lone: 0, BadBend: 0, NoLayout: 0}
        for layout, chance in self.many_layouts(11):
            for turn in range(3):
                net = some_net(layout.channel, chance)
                due = self.due_of(layout, net)
                with self.subTest(plain(layout), net=net):
                    if isinstance(due, list):
                        told = self.check_put(layout, net, due)
                        seen[self.kind_of(layout, told)] += 1
                        seen["bent"] += told.bent
                    else:
                        before = plain(layout)
                        with self.assertRaises(WireError) as caught:
                            put_in(layout, *net)
                        self.assertIs(type(caught.exception), due)
                        self.assertEqual(plain(layout), before)
                        seen[due] += 1
        self.assertGreater(min(seen.values()), 50, seen)

    def kind_of(self, before, after):
        new = [piece for piece in after.pieces if piece not in before.pieces]
        if not new:
            return "no stretch"
        moves = moves_of(before, after)
        if not moves:
            return "free"
        return "moved" if moves[0][2] - moves[0][1] == new[0][3] else "moved by more"

    def test_take_out_and_closed(self):
        seen = 0
        for layout, chance in self.many_layouts(12):
            with self.subTest(plain(layout)):
                told = self.asked(closed, layout)
                self.check_layout(told, plain(layout.channel), layout.bent, self.due_closed(layout))
                self.assertEqual(plain(closed(told)), plain(told))
                names = sorted({piece[0] for piece in layout.pieces} - {None})
                for name in names[:2]:
                    out = self.asked(take_out, layout, name)
                    tracks = [track for piece, track in zip(layout.pieces, layout.tracks) if piece[0] != name]
                    self.check_layout(out, self.due_without(layout.channel, name), layout.bent, tracks)
                    seen += 1
        self.assertGreater(seen, 300)

    def due_closed(self, layout):
        taken = set()
        for piece, track in zip(layout.pieces, layout.tracks):
            taken |= tracks_of(piece, track)
        return [track - len(set(range(track)) - taken) for track in layout.tracks]

    def due_without(self, channel, name):
        lists = plain(channel)
        for side in ("top", "bottom"):
            lists[side] = [None if pin == name else pin for pin in lists[side]]
        for side in ("left", "right"):
            lists[side] = [net for net in lists[side] if net != name]
        lists["wide"] = [pair for pair in lists["wide"] if pair[0] != name]
        lists["bends"] = [pair for pair in lists["bends"] if pair[1] != name]
        return lists

    def test_put_in_and_taken_out_again(self):
        seen = {True: 0, False: 0}
        for layout, chance in self.many_layouts(13):
            net = some_net(layout.channel, chance)
            try:
                told = put_in(layout, *net)
            except WireError:
                continue
            back = take_out(told, net[0])
            stayed = moves_of(layout, told) == []
            seen[stayed] += 1
            self.assertEqual(plain(back.channel), plain(layout.channel))
            self.assertEqual(back.pieces, layout.pieces)
            self.assertEqual(back.tracks == layout.tracks, stayed)
        self.assertGreater(min(seen.values()), 50, seen)


class DeedsTest(LayoutCase):
    def deed(self, layout, chance):
        names = sorted({name for name in layout.channel.top + layout.channel.bottom if name} | {"zz"})
        return chance.choice([
            (put_in, layout, *some_net(layout.channel, chance)),
            (put_in, layout, *some_net(layout.channel, chance)),
            (take_out, layout, chance.choice(names)),
            (closed, layout),
        ])

    def test_one_behind_the_other(self):
        chance = random.Random(21)
        seen = {put_in: 0, take_out: 0, closed: 0, "refused": 0}
        for channel in good_channels(25, 14) + tangled_channels(25, 14):
            for layout in sound_layouts(channel, chance)[:3]:
                told = [layout]
                kept = [plain(layout)]
                for turn in range(12):
                    deed = self.deed(told[-1], chance)
                    try:
                        layout = deed[0](*deed[1:])
                    except WireError:
                        seen["refused"] += 1
                        self.assertEqual([plain(one) for one in told], kept)
                        continue
                    seen[deed[0]] += 1
                    self.check_layout(layout, plain(layout.channel), told[0].bent, layout.tracks)
                    self.assertEqual(traced(drawn(layout)), groups_of(layout))
                    told.append(layout)
                    kept.append(plain(layout))
                self.assertEqual([plain(one) for one in told], kept)
        self.assertGreater(min(seen.values()), 100, seen)

    def test_what_was_told_may_be_changed(self):
        chance = random.Random(22)
        for channel in good_channels(20, 15) + tangled_channels(20, 15):
            for layout in sound_layouts(channel, chance)[:2]:
                before = plain(layout)
                for turn in range(4):
                    deed = self.deed(layout, chance)
                    try:
                        told = deed[0](*deed[1:])
                    except WireError:
                        continue
                    first = plain(told)
                    spoil(told)
                    self.assertEqual(plain(layout), before)
                    self.assertEqual(plain(deed[0](*deed[1:])), first)

    def test_what_was_handed_in_may_be_changed(self):
        layout = laid(made(["a", None, "a", None], [None, "b", None, "b"], wide=[("b", 2)], keeps=[(1, 1, 1)]))
        pins = [("bottom", 0), ("top", 3)]
        told = [put_in(layout, "c", pins), take_out(layout, "a"), closed(layout)]
        first = [plain(one) for one in told]
        spoil(layout)
        spoil(pins)
        self.assertEqual([plain(one) for one in told], first)


if __name__ == "__main__":
    unittest.main()
