"""What is promised over the whole program."""

import importlib
import inspect
import random
import unittest

from making import (
    AskingCase, good_channels, made, net_groups, plain, some_net, sound_layouts, spoil, tangled_channels, with_tracks,
)
from wirechannel.above import above_of
from wirechannel.asking import planned, ringed
from wirechannel.changing import closed, moves_of, put_in, take_out
from wirechannel.channels import Channel
from wirechannel.checking import checked_channel
from wirechannel.drawing import drawn
from wirechannel.errors import WireError
from wirechannel.floors import floor_of, load_of
from wirechannel.layouts import Layout, fault_of, laid, ring_of
from wirechannel.nets import ends_of, nets_of, stretch_of
from wirechannel.packing import bound_of, by_levels, by_rows, count_of, packed
from wirechannel.pieces import pieces_of
from wirechannel.piles import drawn_pile, first_rows, pile_groups, pushed, traced_pile
from wirechannel.ranks import chain_of, ranked
from wirechannel.texts import read_channel, written_channel
from wirechannel.tracing import groups_of, traced

ERRORS = "BadText Lone NoNet BadBend BadKeep NoOrder NoLayout BadDrawing Taken PinTaken BadPile".split()
PUT = "name, pins, left=False, right=False, width=1"
INTERFACE = {
    "channels": {"is_name": "word", "Channel": "top, bottom, left, right, wide, bends, keeps"},
    "texts": {"written_channel": "channel", "read_channel": "text"},
    "nets": {
        "ends_of": "channel, name", "nets_of": "channel", "width_of": "channel, name", "stretch_of": "channel, name",
    },
    "checking": {"checked_channel": "channel"},
    "pieces": {
        "pieces_of": "channel, bent=False", "common_of": "one, other", "pieces_at": "pieces, name, column",
    },
    "above": {"above_of": "channel, pieces"},
    "ranks": {"ranked": "count, above", "chain_of": "pieces, above"},
    "packing": {
        "count_of": "pieces, tracks", "bound_of": "pieces, levels", "by_levels": "pieces, levels",
        "by_rows": "pieces, above", "packed": "pieces, above",
    },
    "floors": {"load_of": "pieces", "floor_of": "pieces, above"},
    "layouts": {
        "fault_of": "pieces, above, tracks", "laid": "channel", "ring_of": "channel",
        "Layout": "channel, bent, pieces, above, tracks",
    },
    "drawing": {"drawn": "layout"},
    "tracing": {"traced": "text", "groups_of": "layout"},
    "changing": {
        "put_in": "layout, " + PUT, "take_out": "layout, name", "closed": "layout", "moves_of": "before, after",
    },
    "piles": {
        "checked_pile": "layouts", "first_rows": "layouts", "drawn_pile": "layouts", "pile_groups": "layouts",
        "pushed": "layouts, k, " + PUT, "traced_pile": "text",
    },
    "asking": {"planned": "text", "ringed": "text"},
}


class InterfaceTest(unittest.TestCase):
    def test_names_and_arguments(self):
        for module, names in INTERFACE.items():
            for name, arguments in names.items():
                with self.subTest(module, name=name):
                    found = getattr(importlib.import_module("wirechannel." + module), name)
                    self.assertEqual(found.__module__, "wirechannel." + module)
                    self.assertEqual(str(inspect.signature(found)), f"({arguments})")

    def test_refusals(self):
        errors = importlib.import_module("wirechannel.errors")
        self.assertEqual(errors.WireError.__bases__, (ValueError,))
        for name in ERRORS:
            self.assertEqual(getattr(errors, name).__bases__, (errors.WireError,))


class FromTextToDrawingTest(AskingCase):
    def test_the_drawing_joins_just_the_nets(self):
        seen = {"straight": 0, "bent": 0, "refused": 0}
        for channel in good_channels(120, 51) + tangled_channels(300, 51):
            text = written_channel(channel)
            with self.subTest(text):
                try:
                    told = planned(text)
                except WireError:
                    seen["refused"] += 1
                    self.assertTrue(ringed(text).startswith("none\n"))
                    continue
                first, *rows = told.split("\n")[:-1]
                form, count, *numbers = first.split(" ")
                seen[form] += 1
                self.assertEqual(numbers[0::2], ["bound", "floor"])
                self.assertGreaterEqual(int(numbers[1]), int(count))
                self.assertGreaterEqual(int(count), int(numbers[3]))
                self.assertEqual(len(rows), 2 * int(count) + 1)
                self.check_nets(traced("\n".join(rows)), channel)
        self.assertGreater(min(seen.values()), 20, seen)

    # Each group is a net of the channel, but that its open ends tell a track.
    def check_nets(self, groups, channel):
        found = [sorted(end if end[0] in ("top", "bottom") else end[:1] for end in group) for group in groups]
        due = [sorted(ends_of(channel, name)) for name in nets_of(channel)]
        self.assertEqual(sorted(found), sorted(due))

    def test_a_changed_channel_is_written_and_read_again(self):
        chance = random.Random(52)
        seen = 0
        for channel in good_channels(60, 52) + tangled_channels(60, 52):
            for layout in sound_layouts(channel, chance)[:4]:
                for turn in range(5):
                    net = some_net(layout.channel, chance)
                    try:
                        layout = put_in(layout, *net)
                    except WireError:
                        continue
                    seen += 1
                    self.check_written(layout)
                    if turn % 2:
                        layout = closed(take_out(layout, nets_of(layout.channel)[0]))
                        self.check_written(layout)
        self.assertGreater(seen, 300)

    def check_written(self, layout):
        text = written_channel(layout.channel)
        self.assertEqual(plain(read_channel(text)), plain(layout.channel))
        self.assertEqual(groups_of(layout), sorted(net_groups(layout).values()))
        self.assertEqual(traced(drawn(layout)), groups_of(layout))
        self.assertEqual(traced_pile(drawn_pile([layout])), pile_groups([layout]))


class OwnTest(AskingCase):
    # Questions of all kinds about this channel.
    def questions(self, channel, layout, net):
        pieces, above = layout.pieces, layout.above
        levels = ranked(len(pieces), above)[1]
        names = nets_of(channel) or ["a"]
        pile = [layout, layout]
        return [
            (checked_channel, channel), (written_channel, channel), (read_channel, written_channel(channel)),
            (nets_of, channel), (ends_of, channel, names[0]), (stretch_of, channel, names[0]),
            (pieces_of, channel, layout.bent), (above_of, channel, pieces), (ranked, len(pieces), above),
            (chain_of, pieces, above), (count_of, pieces, layout.tracks), (by_levels, pieces, levels),
            (bound_of, pieces, levels), (by_rows, pieces, above), (packed, pieces, above), (load_of, pieces),
            (floor_of, pieces, above), (fault_of, pieces, above, layout.tracks), (laid, channel), (ring_of, channel),
            (drawn, layout), (traced, drawn(layout)), (groups_of, layout), (put_in, layout, *net),
            (take_out, layout, names[-1]), (closed, layout), (moves_of, layout, closed(layout)), (first_rows, pile),
            (drawn_pile, pile), (pile_groups, pile), (pushed, pile, 1, *net), (traced_pile, drawn_pile(pile)),
            (planned, written_channel(channel)), (ringed, written_channel(channel)),
        ]

    # What is told, or the refusal's class and fields.
    def answer(self, question):
        try:
            return question[0](*question[1:])
        except WireError as refusal:
            return [type(refusal), vars(refusal)]

    def plainly(self, answer):
        return repr(plain(answer))

    def test_no_answer_changes_another_one(self):
        chance = random.Random(53)
        for channel in good_channels(25, 53) + tangled_channels(25, 53):
            for layout in sound_layouts(channel, chance)[1::3]:
                questions = self.questions(channel, layout, some_net(channel, chance))
                handed = plain(questions)
                told = [self.answer(question) for question in questions]
                first = [self.plainly(answer) for answer in told]
                self.assertEqual(plain(questions), handed)
                order = list(range(len(questions)))
                chance.shuffle(order)
                for place in order:
                    again = self.answer(questions[place])
                    self.assertEqual(self.plainly(again), first[place])
                    spoil(again)
                self.assertEqual(plain(questions), handed)
                self.assertEqual([self.plainly(answer) for answer in told], first)

    def test_what_is_told_is_of_the_kinds_told(self):
        layout = laid(made(["a", None, "b"], ["b", None, "a"], bends=[(1, "a")], keeps=[(1, 1, 1)]))
        told = put_in(layout, "c", [], True, True)
        for one in (layout, told, take_out(told, "c"), closed(told), *pushed([layout, layout], 0, "c", [], True, True)):
            self.assertIs(type(one), Layout)
            self.assertIs(type(one.channel), Channel)
            self.assertIs(one.bent, True)
            self.assertEqual(
                [type(value) for value in (one.pieces, one.above, one.tracks, one.count)], [list, list, list, int]
            )
            self.assertEqual({type(value) for value in vars(one.channel).values()}, {list})
            self.assertIsNone(fault_of(one.pieces, one.above, one.tracks))

    def test_any_sound_tracks_may_be_handed_in(self):
        channel = made(["a", "a", None], [None, "b", "b"], keeps=[(0, 0, 1)])
        layout = with_tracks(channel, False, [1, 4, 9])
        self.assertEqual(traced(drawn(layout)), groups_of(layout))
        self.assertEqual(put_in(layout, "c", [("top", 2)], True).tracks, [1, 4, 9, 2])
        self.assertEqual(take_out(layout, "a").tracks, [1, 9])
        self.assertEqual(closed(layout).tracks, [0, 1, 2])
        self.assertEqual(first_rows([layout, layout]), [0, 22])
        self.assertEqual(traced_pile(drawn_pile([layout, layout])), pile_groups([layout, layout]))


if __name__ == "__main__":
    unittest.main()
