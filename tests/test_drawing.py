import copy
import random
import unittest

from making import AskingCase, columns_of, good_channels, made, sound_layouts, tangled_channels, with_tracks
from wirechannel.drawing import drawn
from wirechannel.layouts import fault_of, laid

TOP = -1


# Point 20, sign by sign. The edges count as tracks here: TOP ahead of track 0, and the count behind the last one.
def due_drawing(layout):
    rows = range(2 * layout.count + 1)
    signs = range(2 * len(layout.channel.top) + 1)
    covers = [uprights(layout, column) for column in range(len(layout.channel.top))]
    lines = []
    for row in rows:
        pieces = drawn_on(layout, row // 2)
        lines.append("".join(due_sign(pieces, covers, row, sign) for sign in signs))
    return "\n".join(lines)


def due_sign(pieces, covers, row, sign):
    if row % 2 == 1 and sign % 2 == 1:
        return column_sign(pieces, covers[sign // 2], row // 2, sign // 2)
    if row % 2 == 1:
        between = {sign // 2 - 1, sign // 2}
        return "-" if any(between <= columns_of(piece) for piece in pieces) else " "
    if sign % 2 == 1:
        between = {row // 2 - 1, row // 2}
        return "|" if any(between <= cover for cover in covers[sign // 2].values()) else " "
    return " "


def column_sign(pieces, covers, track, column):
    across = {piece[0] for piece in pieces if column in columns_of(piece)}
    upright = {name for name, cover in covers.items() if track in cover}
    if across & upright:
        return "+"
    return {(True, True): "#", (True, False): "-", (False, True): "|"}.get((bool(across), bool(upright)), " ")


def drawn_on(layout, track):
    return [piece for piece, own in zip(layout.pieces, layout.tracks) if piece[0] is not None and own == track]


# For each net with an upright in this column, all tracks and edges that it covers.
def uprights(layout, column):
    top, bottom = layout.channel.top[column], layout.channel.bottom[column]
    told = [name for at, name in layout.channel.bends if at == column and layout.bent]
    covers = {}
    for name in {top, bottom, *told} - {None}:
        own = [(piece, track) for piece, track in zip(layout.pieces, layout.tracks) if piece[0] == name]
        if not own:
            covers[name] = set(range(TOP, layout.count + 1))
            continue
        here = [track for piece, track in own if column in columns_of(piece)]
        cover = set(range(min(here), max(here) + 1))
        if top == name:
            cover |= set(range(TOP, min(here)))
        if bottom == name:
            cover |= set(range(max(here), layout.count + 1))
        covers[name] = cover
    return covers


class DrawnCase(AskingCase):
    def check_drawn(self, layout, rows):
        self.assertIsNone(fault_of(layout.pieces, layout.above, layout.tracks))
        self.check_text(layout, "\n".join(rows))
        self.assertEqual(due_drawing(layout), "\n".join(rows))

    def check_text(self, layout, due):
        before = copy.deepcopy((vars(layout.channel), {**vars(layout), "channel": None}))
        text = drawn(layout)
        self.assertEqual((vars(layout.channel), {**vars(layout), "channel": None}), before)
        self.assertIs(type(text), str)
        self.assertEqual(text, due)
        self.assertEqual(drawn(layout), due)


class NoTrackTest(DrawnCase):
    def test_no_pins(self):
        self.check_drawn(laid(made([None], [None])), ["   "])
        self.check_drawn(laid(made([None] * 40, [None] * 40)), [" " * 81])

    def test_facing_pins(self):
        self.check_drawn(laid(made(["a"], ["a"])), [" | "])
        self.check_drawn(laid(made(["a", None, "b", "c"], ["a", None, "b", "c"])), [" |   | | "])


class OneTrackTest(DrawnCase):
    def test_two_top_pins(self):
        self.check_drawn(laid(made(["a", None, "a"], [None] * 3)), [
            " |   | ",
            " +---+ ",
            "       ",
        ])

    def test_two_bottom_pins(self):
        self.check_drawn(laid(made([None] * 3, ["a", None, "a"])), [
            "       ",
            " +---+ ",
            " |   | ",
        ])

    def test_a_top_pin_and_a_bottom_pin(self):
        self.check_drawn(laid(made(["a", None, None], [None, None, "a"])), [
            " |     ",
            " +---+ ",
            "     | ",
        ])

    def test_columns_beside_the_stretch_are_blank(self):
        self.check_drawn(laid(made([None, "a", "a", None], [None] * 4)), [
            "   | |   ",
            "   +-+   ",
            "         ",
        ])

    def test_pins_within_the_stretch(self):
        self.check_drawn(laid(made(["a", "a", None, "a"], [None, None, "a", None])), [
            " | |   | ",
            " +-+-+-+ ",
            "     |   ",
        ])

    def test_a_top_pin_and_a_bottom_pin_of_one_net_in_one_column(self):
        self.check_drawn(laid(made(["a", "a"], ["a", None])), [
            " | | ",
            " +-+ ",
            " |   ",
        ])
        self.check_drawn(laid(made(["a", "a", None], [None, "a", "a"])), [
            " | |   ",
            " +-+-+ ",
            "   | | ",
        ])

    def test_an_upright_that_crosses(self):
        self.check_drawn(laid(made(["a", "b", "a"], [None, "b", None])), [
            " | | | ",
            " +-#-+ ",
            "   |   ",
        ])

    def test_an_upright_beside(self):
        self.check_drawn(laid(made(["b", "a", "a"], ["b", None, None])), [
            " | | | ",
            " | +-+ ",
            " |     ",
        ])

    def test_two_nets_one_behind_the_other_do_not_touch(self):
        self.check_drawn(laid(made(["a", "a", "b", "b"], [None] * 4)), [
            " | | | | ",
            " +-+ +-+ ",
            "         ",
        ])

    def test_to_the_left(self):
        self.check_drawn(laid(made(["a", None], [None, None], left=["a"])), [
            " |   ",
            "-+   ",
            "     ",
        ])
        self.check_drawn(laid(made([None, None], [None, "a"], left=["a"])), [
            "     ",
            "---+ ",
            "   | ",
        ])

    def test_to_the_right(self):
        self.check_drawn(laid(made([None, "a"], [None, None], right=["a"])), [
            "   | ",
            "   +-",
            "     ",
        ])
        self.check_drawn(laid(made([None, None], ["a", None], right=["a"])), [
            "     ",
            " +---",
            " |   ",
        ])

    def test_to_both(self):
        self.check_drawn(laid(made([None, None], [None, None], left=["a"], right=["a"])), [
            "     ",
            "-----",
            "     ",
        ])

    def test_signs_at_all_four_edges(self):
        self.check_drawn(laid(made(["a"], ["a"], left=["a"], right=["a"])), [
            " | ",
            "-+-",
            " | ",
        ])
        self.check_drawn(laid(made(["b", None, "c"], ["b", None, "c"], left=["a"], right=["a"])), [
            " |   | ",
            "-#---#-",
            " |   | ",
        ])

    def test_one_to_the_left_and_one_to_the_right_on_one_track(self):
        self.check_drawn(laid(made(["a", "b"], [None, None], left=["a"], right=["b"])), [
            " | | ",
            "-+ +-",
            "     ",
        ])

    def test_a_bend_that_is_told_has_no_upright_where_the_layout_is_not_bent(self):
        channel = made(["a", None, None, "a"], [None] * 4, bends=[(1, "a"), (2, "a")])
        self.check_drawn(laid(channel), [
            " |     | ",
            " +-----+ ",
            "         ",
        ])
        self.check_drawn(with_tracks(channel, True, [0, 0, 0]), [
            " |     | ",
            " +-+-+-+ ",
            "         ",
        ])


class SeveralTracksTest(DrawnCase):
    def test_two_nets_in_one_column(self):
        self.check_drawn(laid(made(["a", "a"], ["b", "b"])), [
            " | | ",
            " +-+ ",
            "     ",
            " +-+ ",
            " | | ",
        ])
        self.check_drawn(laid(made(["a", None, "a"], ["b", None, "a"], right=["b"])), [
            " |   | ",
            " +---+ ",
            "     | ",
            " +---#-",
            " |   | ",
        ])

    def test_uprights_that_cross_the_stretches_between(self):
        self.check_drawn(laid(made(["a", "b", "c", None], ["c", "a", None, "b"])), [
            " | | |   ",
            " | +-#-+ ",
            " |   | | ",
            " +-+ | | ",
            "   | | | ",
            " +-#-+ | ",
            " | |   | ",
        ])

    def test_a_facing_net_covers_all_tracks(self):
        self.check_drawn(laid(made(["a", "z", "a"], ["b", "z", "b"])), [
            " | | | ",
            " +-#-+ ",
            "   |   ",
            " +-#-+ ",
            " | | | ",
        ])

    def test_a_wide_one_is_drawn_on_its_first_track_alone(self):
        for width in (2, 3):
            self.check_drawn(laid(made(["a", "a"], [None, None], wide=[("a", width)])), [
                " | | ",
                " +-+ ",
            ] + ["     "] * (2 * width - 1))
            self.check_drawn(laid(made([None, None], ["a", "a"], wide=[("a", width)])), [
                "     ",
                " +-+ ",
            ] + [" | | "] * (2 * width - 1))

    def test_a_wide_one_above_another(self):
        self.check_drawn(laid(made(["a", "a"], ["b", "a"], right=["b"], wide=[("a", 2)])), [
            " | | ",
            " +-+ ",
            "   | ",
            "   | ",
            "   | ",
            " +-#-",
            " | | ",
        ])

    def test_a_wide_one_to_both_sides(self):
        self.check_drawn(laid(made([None], [None], left=["a"], right=["a"], wide=[("a", 3)])), [
            "   ",
            "---",
            "   ",
            "   ",
            "   ",
            "   ",
            "   ",
        ])

    def test_a_keep_is_not_drawn(self):
        self.check_drawn(laid(made([None], [None], keeps=[(0, 0, 2)])), ["   "] * 5)
        self.check_drawn(laid(made(["a"], ["a"], keeps=[(0, 0, 2)])), [" | "] * 5)
        self.check_drawn(laid(made(["a", None, "a"], [None, None, "a"], keeps=[(0, 1, 1)])), [
            " |   | ",
            " |   | ",
            " |   | ",
            " +---+ ",
            "     | ",
        ])

    def test_a_net_without_a_stretch_over_a_keep_and_a_stretch(self):
        self.check_drawn(laid(made(["a", "b", "a"], [None, "b", None], keeps=[(1, 1, 1)])), [
            " | | | ",
            " | | | ",
            " | | | ",
            " +-#-+ ",
            "   |   ",
        ])

    def test_forty_columns(self):
        self.check_drawn(laid(made(["a"] + [None] * 38 + ["a"], [None] * 40)), [
            " |" + " " * 77 + "| ",
            " +" + "-" * 77 + "+ ",
            " " * 81,
        ])


BENDS = [(1, "a")]


class BentTest(DrawnCase):
    def test_a_bend_without_a_pin(self):
        layout = laid(made(["a", None, "b"], ["b", None, "a"], bends=BENDS))
        self.assertIs(layout.bent, True)
        self.check_drawn(layout, [
            " |   | ",
            " +-+ | ",
            "   | | ",
            " +-#-+ ",
            " | |   ",
            " | +-+ ",
            " |   | ",
        ])

    def test_a_bend_with_a_top_pin(self):
        self.check_drawn(laid(made(["a", "a", "b"], ["b", None, "a"], bends=BENDS)), [
            " | | | ",
            " +-+ | ",
            "   | | ",
            " +-#-+ ",
            " | |   ",
            " | +-+ ",
            " |   | ",
        ])

    def test_a_bend_with_a_bottom_pin(self):
        self.check_drawn(laid(made(["a", None, "b"], ["b", "a", "a"], bends=BENDS)), [
            " |   | ",
            " +-+ | ",
            "   | | ",
            " +-#-+ ",
            " | |   ",
            " | +-+ ",
            " | | | ",
        ])

    def test_a_bend_with_both_pins(self):
        self.check_drawn(laid(made(["a", "a", "b"], ["b", "a", "a"], bends=BENDS)), [
            " | | | ",
            " +-+ | ",
            "   | | ",
            " +-#-+ ",
            " | |   ",
            " | +-+ ",
            " | | | ",
        ])

    def test_a_bend_upwards(self):
        self.check_drawn(laid(made(["b", None, "a"], ["a", None, "b"], bends=BENDS)), [
            " |   | ",
            " | +-+ ",
            " | |   ",
            " +-#-+ ",
            "   | | ",
            " +-+ | ",
            " |   | ",
        ])

    def test_a_bend_upwards_with_a_top_pin_covers_what_is_above_too(self):
        channel = made(["b", "a", "a"], ["a", None, "b"], bends=BENDS, keeps=[(1, 2, 1)])
        self.check_drawn(laid(channel), [
            " | | | ",
            " | | | ",
            " | | | ",
            " | +-+ ",
            " | |   ",
            " +-#-+ ",
            "   | | ",
            " +-+ | ",
            " |   | ",
        ])

    def test_a_bend_with_a_top_pin_above_another_nets_bottom_pin(self):
        layout = with_tracks(made(["a", "a", "a", None], [None, "b", None, "b"], bends=BENDS), True, [0, 1, 2])
        self.check_drawn(layout, [
            " | | |   ",
            " +-+ |   ",
            "   | |   ",
            "   +-+   ",
            "         ",
            "   +---+ ",
            "   |   | ",
        ])

    def test_both_pieces_on_one_track(self):
        self.check_drawn(with_tracks(made(["a", None, "a"], [None] * 3, bends=BENDS), True, [0, 0]), [
            " |   | ",
            " +-+-+ ",
            "       ",
        ])

    def test_several_bends_of_a_net_that_is_wide(self):
        channel = made([None] * 3, [None] * 3, left=["a"], right=["a"], wide=[("a", 2)], bends=[(0, "a"), (2, "a")])
        self.check_drawn(with_tracks(channel, True, [2, 0, 1]), [
            "       ",
            " +---+ ",
            " |   | ",
            " |   +-",
            " |     ",
            "-+     ",
            "       ",
            "       ",
            "       ",
        ])


class OtherTracksTest(DrawnCase):
    def test_free_tracks_ahead_between_and_behind(self):
        channel = made(["a", "a", None, None], ["b", "b", None, None], keeps=[(3, 3, 2)])
        self.check_drawn(with_tracks(channel, False, [4, 1, 3]), [
            " | |     ",
            " | |     ",
            " | |     ",
            " +-+     ",
            "         ",
            "         ",
            "         ",
            " +-+     ",
            " | |     ",
            " | |     ",
            " | |     ",
            " | |     ",
            " | |     ",
        ])

    def test_turned_about(self):
        channel = made(["a", "b", "a", "b"], [None] * 4)
        self.check_drawn(with_tracks(channel, False, [0, 1]), [
            " | | | | ",
            " +-#-+ | ",
            "   |   | ",
            "   +---+ ",
            "         ",
        ])
        self.check_drawn(with_tracks(channel, False, [1, 0]), [
            " | | | | ",
            " | +-#-+ ",
            " |   |   ",
            " +---+   ",
            "         ",
        ])

    def test_a_bent_one_where_a_straight_one_would_do(self):
        channel = made(["a", None, "a"], [None, None, "b"], left=["b"], bends=BENDS)
        self.check_drawn(with_tracks(channel, True, [2, 0, 3]), [
            " |   | ",
            " | +-+ ",
            " | |   ",
            " | |   ",
            " | |   ",
            " +-+   ",
            "       ",
            "-----+ ",
            "     | ",
        ])


class ManyTest(DrawnCase):
    def check_form(self, layout, text):
        rows = text.split("\n")
        self.assertEqual(len(rows), 2 * layout.count + 1)
        self.assertEqual({len(row) for row in rows}, {2 * len(layout.channel.top) + 1})

    def test_many(self):
        chance = random.Random(3)
        seen = {"+": 0, "#": 0, "-": 0, "|": 0, " ": 0, "bent": 0, "straight": 0}
        for channel in good_channels(40) + tangled_channels(60):
            for layout in sound_layouts(channel, chance):
                with self.subTest(vars(channel), bent=layout.bent, tracks=layout.tracks):
                    self.assertIsNone(fault_of(layout.pieces, layout.above, layout.tracks))
                    due = due_drawing(layout)
                    self.check_text(layout, due)
                    self.check_form(layout, due)
                    seen["bent" if layout.bent else "straight"] += 1
                    for sign in set(due) - {"\n"}:
                        seen[sign] += 1
        self.assertGreater(min(seen.values()), 100, seen)

    def test_asked_again_and_behind_other_questions(self):
        layouts = [layout for channel in tangled_channels(20) for layout in sound_layouts(channel, random.Random(1))]
        first = [drawn(layout) for layout in layouts]
        self.assertEqual([drawn(layout) for layout in reversed(layouts)], first[::-1])


if __name__ == "__main__":
    unittest.main()
