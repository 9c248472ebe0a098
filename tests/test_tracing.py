import random
import string
import unittest

from making import (
    PRINTED, AskingCase, any_drawing, due_groups, good_channels, is_due, made, net_groups, sound_layouts,
    tangled_channels, with_tracks,
)
from wirechannel.drawing import drawn
from wirechannel.errors import BadDrawing
from wirechannel.layouts import fault_of, laid
from wirechannel.tracing import groups_of, traced


class TracedCase(AskingCase):
    def check_traced(self, rows, groups):
        text = "\n".join(rows)
        self.assertTrue(is_due(text))
        self.assertEqual(due_groups(text), groups)
        self.check_told(self.asked(traced, text), groups)

    def check_told(self, told, groups):
        self.assertEqual(told, groups)
        self.assertIs(type(told), list)
        for group in told:
            self.assertIs(type(group), list)
            for end in group:
                self.assertEqual([type(part) for part in end], [str, int])
                self.assertIs(type(end), tuple)

    def check_bad(self, rows):
        text = rows if isinstance(rows, str) else "\n".join(rows)
        self.assertFalse(is_due(text))
        self.refused(BadDrawing, [], traced, text)


class OneRowTest(TracedCase):
    def test_no_end(self):
        self.check_traced(["   "], [])
        self.check_traced([" " * 81], [])

    def test_each_upright_is_an_end_above_and_one_below(self):
        self.check_traced([" | "], [[("bottom", 0), ("top", 0)]])
        self.check_traced([" |   | "], [[("bottom", 0), ("top", 0)], [("bottom", 2), ("top", 2)]])
        self.check_traced([" | | "], [[("bottom", 0), ("top", 0)], [("bottom", 1), ("top", 1)]])
        self.check_traced([" " * 79 + "| "], [[("bottom", 39), ("top", 39)]])

    def test_of_many_columns(self):
        count = 29999
        self.check_told(traced(" |" * count + " "), [[("bottom", place), ("top", place)] for place in range(count)])


class OneSignTest(TracedCase):
    def test_blank(self):
        self.check_traced(["   ", "   ", "   "], [])

    def test_stretch(self):
        self.check_traced(["   ", "---", "   "], [[("left", 0), ("right", 0)]])

    def test_upright(self):
        self.check_traced([" | ", " | ", " | "], [[("bottom", 0), ("top", 0)]])

    def test_plus_joins_both(self):
        self.check_traced([" | ", "-+-", " | "], [[("bottom", 0), ("left", 0), ("right", 0), ("top", 0)]])

    def test_hash_joins_each_way_but_not_the_two(self):
        self.check_traced([" | ", "-#-", " | "], [[("bottom", 0), ("top", 0)], [("left", 0), ("right", 0)]])

    def test_plus_joins_each_two(self):
        self.check_traced([" | ", "-+ ", "   "], [[("left", 0), ("top", 0)]])
        self.check_traced([" | ", " +-", "   "], [[("right", 0), ("top", 0)]])
        self.check_traced(["   ", "-+ ", " | "], [[("bottom", 0), ("left", 0)]])
        self.check_traced(["   ", " +-", " | "], [[("bottom", 0), ("right", 0)]])
        self.check_traced([" | ", " + ", " | "], [[("bottom", 0), ("top", 0)]])
        self.check_traced(["   ", "-+-", "   "], [[("left", 0), ("right", 0)]])

    def test_hash_parts_each_two(self):
        self.check_traced([" | ", "-# ", "   "], [[("left", 0)], [("top", 0)]])
        self.check_traced([" | ", " #-", "   "], [[("right", 0)], [("top", 0)]])
        self.check_traced(["   ", "-# ", " | "], [[("bottom", 0)], [("left", 0)]])
        self.check_traced(["   ", " #-", " | "], [[("bottom", 0)], [("right", 0)]])
        self.check_traced([" | ", " # ", " | "], [[("bottom", 0), ("top", 0)]])
        self.check_traced(["   ", "-#-", "   "], [[("left", 0), ("right", 0)]])

    def test_signs_by_themselves_have_no_end(self):
        for sign in " -|+#":
            with self.subTest(sign):
                self.check_traced(["   ", f" {sign} ", "   "], [])

    def test_all_of_one_column_and_one_track(self):
        seen = 0
        for number in range(5 * 16):
            sign, edges = " -|+#"[number // 16], number % 16
            up, down, left, right = [mark if edges >> place & 1 else " " for place, mark in enumerate("||--")]
            rows = [f" {up} ", left + sign + right, f" {down} "]
            with self.subTest(rows):
                if is_due("\n".join(rows)):
                    self.check_traced(rows, due_groups("\n".join(rows)))
                    seen += 1
                else:
                    self.check_bad(rows)
        self.assertEqual(seen, 1 + 4 + 4 + 16 + 16)


class EndsTest(TracedCase):
    def test_an_end_that_nothing_joins(self):
        self.check_traced([" | ", " | ", "   "], [[("top", 0)]])
        self.check_traced(["   ", " | ", " | "], [[("bottom", 0)]])
        self.check_traced(["   ", "-- ", "   "], [[("left", 0)]])
        self.check_traced(["   ", " --", "   "], [[("right", 0)]])
        self.check_traced([
            " |   | ",
            "-+   | ",
            "       ",
            " +---#-",
            "     | ",
        ], [[("bottom", 2)], [("left", 0), ("top", 0)], [("right", 1)], [("top", 2)]])

    def test_two_ends_at_one_place_that_a_gap_parts(self):
        self.check_traced([
            " | ",
            " | ",
            "   ",
            " | ",
            " | ",
        ], [[("bottom", 0)], [("top", 0)]])
        self.check_traced([
            "       ",
            "-- ----",
            "       ",
        ], [[("left", 0)], [("right", 0)]])

    def test_a_gap_beside_a_column(self):
        self.check_traced(["     ", "-- --", "     "], [[("left", 0)], [("right", 0)]])
        self.check_traced(["     ", "-+ +-", "     "], [[("left", 0)], [("right", 0)]])
        self.check_traced(["     ", "-# #-", "     "], [[("left", 0)], [("right", 0)]])

    def test_ends_at_all_four_edges(self):
        self.check_traced([
            " |   | ",
            " +---#-",
            "     | ",
            "-----+ ",
            "     | ",
        ], [[("bottom", 2), ("left", 1), ("top", 2)], [("right", 0), ("top", 0)]])

    def test_what_has_no_end_is_left_out(self):
        self.check_traced([
            " |     | ",
            " | +-+ | ",
            " | | | | ",
            " | +-+ | ",
            " |     | ",
        ], [[("bottom", 0), ("top", 0)], [("bottom", 3), ("top", 3)]])
        self.check_traced(["     ", " +-+ ", "     "], [])
        self.check_traced(["   ", " + ", " | ", " + ", "   "], [])

    def test_the_last_row_has_ends_below_and_the_first_one_above_alone(self):
        self.check_traced([
            "     ",
            " +-+ ",
            " | | ",
            "-+ | ",
            "   | ",
        ], [[("bottom", 1), ("left", 1)]])

    def test_ends_of_a_net_in_a_row_between(self):
        self.check_traced([
            "   ",
            "-+ ",
            " | ",
            " +-",
            " | ",
            "-+-",
            "   ",
        ], [[("left", 0), ("left", 2), ("right", 1), ("right", 2)]])


class WaysTest(TracedCase):
    def test_a_stretch_through_several_crossings(self):
        self.check_traced([
            " | | | | ",
            "-#-#-#-+ ",
            " | | |   ",
        ], [
            [("bottom", 0), ("top", 0)],
            [("bottom", 1), ("top", 1)],
            [("bottom", 2), ("top", 2)],
            [("left", 0), ("top", 3)],
        ])

    def test_an_upright_through_several_crossings(self):
        self.check_traced([
            "   | ",
            "---#-",
            "   | ",
            "---#-",
            "   | ",
            " +-+ ",
            " |   ",
        ], [[("bottom", 0), ("top", 1)], [("left", 0), ("right", 0)], [("left", 1), ("right", 1)]])

    def test_both_ways_through_crossings_and_joints_by_turns(self):
        self.check_traced([
            " | | ",
            "-+-#-",
            " | | ",
            "-#-+-",
            " | | ",
        ], [
            [("bottom", 0), ("left", 0), ("right", 0), ("top", 0)],
            [("bottom", 1), ("left", 1), ("right", 1), ("top", 1)],
        ])

    def test_a_stretch_beside_another_on_one_track(self):
        self.check_traced([
            " | | | | ",
            " +-+ +-+ ",
            "         ",
        ], [[("top", 0), ("top", 1)], [("top", 2), ("top", 3)]])

    def test_an_upright_beneath_another_in_one_column(self):
        self.check_traced([
            " | | ",
            " +-+ ",
            "     ",
            " +-+ ",
            " | | ",
        ], [[("bottom", 0), ("bottom", 1)], [("top", 0), ("top", 1)]])

    def test_uprights_in_columns_side_by_side(self):
        self.check_traced([
            " | | ",
            " | | ",
            " | | ",
        ], [[("bottom", 0), ("top", 0)], [("bottom", 1), ("top", 1)]])

    def test_stretches_on_tracks_one_beneath_the_other(self):
        self.check_traced([
            "   ",
            "---",
            "   ",
            "---",
            "   ",
        ], [[("left", 0), ("right", 0)], [("left", 1), ("right", 1)]])

    def test_a_stretch_ends_at_an_upright_that_goes_by(self):
        self.check_traced([
            "   | ",
            "-- | ",
            "   | ",
        ], [[("bottom", 1), ("top", 1)], [("left", 0)]])

    def test_a_ring_with_ends(self):
        self.check_traced([
            " |     ",
            " +---+ ",
            " |   | ",
            " |   | ",
            " |   | ",
            " +---+-",
            "       ",
        ], [[("right", 2), ("top", 0)]])

    def test_a_ring_round_another_net(self):
        self.check_traced([
            " | | | ",
            " +-#-+ ",
            " | | | ",
            " | +-#-",
            " |   | ",
            "-+---+ ",
            "     | ",
        ], [[("bottom", 2), ("left", 2), ("top", 0), ("top", 2)], [("right", 1), ("top", 1)]])

    def test_rings_within_rings(self):
        self.check_traced([
            " | | | ",
            "-+-+-+-",
            " | | | ",
            "-+-+-+-",
            " | | | ",
        ], [sorted([(side, place) for side in ("top", "bottom") for place in range(3)]
                   + [(side, place) for side in ("left", "right") for place in range(2)])])

    def test_a_long_way_round(self):
        rows = [" |       "]
        for turn in range(100):
            rows += [" +-----+ ", "       | ", " +-----+ ", " |       "]
        self.check_traced(rows, [[("bottom", 0), ("top", 0)]])


class OrderTest(TracedCase):
    def test_numbers_as_numbers(self):
        self.check_traced([
            " " + "| " * 11,
            " +" + "-#" * 8 + "-+-+ ",
            " " * 3 + "| " * 8 + "    ",
        ], sorted([[("top", 0), ("top", 9), ("top", 10)]] + [[("bottom", c), ("top", c)] for c in range(1, 9)]))

    def test_groups_by_numbers(self):
        told = traced("\n".join([" |" * 12 + " "] * 3))
        self.assertEqual(told, [[("bottom", column), ("top", column)] for column in range(12)])

    def test_tracks_by_numbers(self):
        told = traced("\n".join(["   "] + ["---", "   "] * 12))
        self.assertEqual(told, [[("left", track), ("right", track)] for track in range(12)])

    def test_sides_by_their_words(self):
        self.check_traced([
            " | | ",
            "-+-+-",
            " | | ",
        ], [[("bottom", 0), ("bottom", 1), ("left", 0), ("right", 0), ("top", 0), ("top", 1)]])


class FormTest(TracedCase):
    def test_the_empty_text(self):
        self.check_bad("")

    def test_one_sign(self):
        for sign in PRINTED:
            self.check_bad(sign)

    def test_two_signs(self):
        for text in ("  ", " |", "| ", "||", "--"):
            self.check_bad(text)

    def test_line_feeds_alone(self):
        for count in (1, 2, 3, 4, 30000):
            self.check_bad("\n" * count)

    def test_rows_even_in_number(self):
        self.check_bad(["   ", "   "])
        self.check_bad([" | ", " | "])
        self.check_bad([" | ", "-+-", " | ", "   "])

    def test_a_line_feed_behind_the_last_row(self):
        self.check_bad("   \n")
        self.check_bad(" | \n-+-\n | \n")
        self.check_bad(" | \n | \n\n")
        self.check_bad(" | \n-+-\n | \n\n")

    def test_a_line_feed_ahead_of_the_first_row(self):
        self.check_bad("\n   ")
        self.check_bad("\n   \n   ")

    def test_rows_of_two_lengths(self):
        for place in range(3):
            for other in ("     ", "    ", "  ", " ", ""):
                rows = ["   "] * 3
                rows[place] = other
                self.check_bad(rows)

    def test_an_even_length(self):
        for length in (2, 4, 6, 80):
            self.check_bad([" " * length])
            self.check_bad([" " * length] * 3)

    def test_a_length_of_one(self):
        self.check_bad([" "])
        self.check_bad([" ", " ", " "])
        self.check_bad([" ", "-", " "])

    def test_a_length_of_nought(self):
        self.check_bad(["", "", ""])


FULL = [
    " | | ",
    "-+-+-",
    " | | ",
    "-+-+-",
    " | | ",
]
BARE = ["     "] * 5


def with_sign(rows, row, place, sign):
    rows = list(rows)
    rows[row] = rows[row][:place] + sign + rows[row][place + 1:]
    return rows


class SignTest(TracedCase):
    # At all such positions each of these signs is passed, and each other one is refused.
    def check_signs(self, rows, odd_row, odd_place, passed):
        for row in range(odd_row, 5, 2):
            for place in range(odd_place, 5, 2):
                for sign in PRINTED:
                    changed = with_sign(rows, row, place, sign)
                    with self.subTest(changed):
                        if sign in passed:
                            self.check_traced(changed, due_groups("\n".join(changed)))
                        else:
                            self.check_bad(changed)

    def test_in_a_column_on_a_track(self):
        self.check_signs(BARE, 1, 1, " -|+#")

    def test_in_a_column_on_a_track_between_others(self):
        self.check_signs(FULL, 1, 1, "+#")

    def test_between_columns_and_at_the_sides(self):
        self.check_signs(FULL, 1, 0, " -")
        self.check_signs(BARE, 1, 0, " ")

    def test_between_tracks_and_above_and_below(self):
        self.check_signs(FULL, 0, 1, " |")
        self.check_signs(BARE, 0, 1, " ")

    def test_where_neither_may_be(self):
        self.check_signs(FULL, 0, 0, " ")
        self.check_signs(BARE, 0, 0, " ")

    def test_in_one_row_alone(self):
        for place in range(5):
            for sign in PRINTED:
                row = " " * place + sign + " " * (4 - place)
                with self.subTest(row):
                    if sign == " " or (sign == "|" and place % 2 == 1):
                        self.check_traced([row], due_groups(row))
                    else:
                        self.check_bad([row])

    def test_a_stretch_in_a_row_between_tracks(self):
        self.check_bad([" - ", "   ", "   "])
        self.check_bad(["   ", "   ", " - "])
        self.check_bad(["   ", "   ", "---", "   ", "   "])

    def test_an_upright_between_columns(self):
        self.check_bad(["|  ", "|  ", "|  "])
        self.check_bad(["     ", "  |  ", "     "])

    def test_joints_and_crossings_between(self):
        for sign in "+#":
            self.check_bad(["     ", f" +{sign}+ ", "     "])
            self.check_bad(["   ", f"{sign}+-", "   "])
            self.check_bad(["   ", " + ", f" {sign} ", " + ", "   "])
            self.check_bad([f" {sign} ", " + ", "   "])
            self.check_bad([f" {sign} "])

    def test_other_signs(self):
        for sign in "=_.*xX0~!":
            self.check_bad(["   ", f" {sign} ", "   "])
            self.check_bad([f"{sign}  ", "   ", "   "])
            self.check_bad([f" {sign} "])


class BesideTest(TracedCase):
    def test_a_stretch_between_columns_must_go_on_to_the_left(self):
        for sign in " |":
            self.check_bad(["     ", f" {sign}-+ ", "     "])
        for sign in "-+#":
            self.check_traced(["     ", f" {sign}-+ ", "     "], [])

    def test_a_stretch_between_columns_must_go_on_to_the_right(self):
        for sign in " |":
            self.check_bad(["     ", f" +-{sign} ", "     "])
        for sign in "-+#":
            self.check_traced(["     ", f" +-{sign} ", "     "], [])

    def test_a_stretch_at_the_left_edge_must_go_on(self):
        for sign in " |":
            self.check_bad(["   ", f"-{sign} ", "   "])
        for sign in "-+#":
            self.check_traced(["   ", f"-{sign} ", "   "], [[("left", 0)]])

    def test_a_stretch_at_the_right_edge_must_go_on(self):
        for sign in " |":
            self.check_bad(["   ", f" {sign}-", "   "])
        for sign in "-+#":
            self.check_traced(["   ", f" {sign}-", "   "], [[("right", 0)]])

    def test_an_upright_between_tracks_must_go_on_above(self):
        for sign in " -":
            self.check_bad(["   ", f" {sign} ", " | ", " + ", "   "])
        for sign in "|+#":
            self.check_traced(["   ", f" {sign} ", " | ", " + ", "   "], [])

    def test_an_upright_between_tracks_must_go_on_below(self):
        for sign in " -":
            self.check_bad(["   ", " + ", " | ", f" {sign} ", "   "])
        for sign in "|+#":
            self.check_traced(["   ", " + ", " | ", f" {sign} ", "   "], [])

    def test_an_upright_at_the_upper_edge_must_go_on(self):
        for sign in " -":
            self.check_bad([" | ", f" {sign} ", "   "])
        for sign in "|+#":
            self.check_traced([" | ", f" {sign} ", "   "], [[("top", 0)]])

    def test_an_upright_at_the_lower_edge_must_go_on(self):
        for sign in " -":
            self.check_bad(["   ", f" {sign} ", " | "])
        for sign in "|+#":
            self.check_traced(["   ", f" {sign} ", " | "], [[("bottom", 0)]])

    def test_signs_of_a_column_on_a_track_need_nothing_beside_them(self):
        self.check_traced(["       ", " - | + ", "       ", " # - | ", "       "], [])


class ManyDrawingsTest(TracedCase):
    def test_any_drawings(self):
        chance = random.Random(7)
        sizes = {0: 0, 1: 0, 2: 0}
        for turn in range(600):
            text = any_drawing(chance, chance.randint(0, 6), chance.randint(1, 8))
            with self.subTest(text):
                self.assertTrue(is_due(text))
                groups = due_groups(text)
                self.check_told(self.asked(traced, text), groups)
                for group in groups:
                    sizes[min(len(group) - 1, 2)] += 1
        self.assertGreater(min(sizes.values()), 300, sizes)

    def test_one_sign_changed(self):
        chance = random.Random(8)
        seen = {True: 0, False: 0}
        for turn in range(1500):
            text = any_drawing(chance, chance.randint(0, 4), chance.randint(1, 5))
            place = chance.randrange(len(text))
            changed = text[:place] + chance.choice(" -|+#=\nx") + text[place + 1:]
            with self.subTest(changed):
                due = is_due(changed)
                seen[due] += 1
                if due:
                    self.check_told(traced(changed), due_groups(changed))
                else:
                    self.check_bad(changed)
        self.assertGreater(min(seen.values()), 200, seen)

    def test_the_longest_texts(self):
        for tracks, columns in ((122, 122), (1, 9999), (9999, 1)):
            rows = [" |" * columns + " "] + ["-#" * columns + "-", " |" * columns + " "] * tracks
            uprights = [[("bottom", column), ("top", column)] for column in range(columns)]
            stretches = [[("left", track), ("right", track)] for track in range(tracks)]
            self.assertEqual(traced("\n".join(rows)), uprights + stretches)
            told = traced("\n".join(rows).replace("#", "+"))
            self.assertEqual([len(group) for group in told], [2 * columns + 2 * tracks])

    def test_told_lists_are_the_askers_own(self):
        text = "\n".join(FULL)
        told = traced(text)
        told[0].append(("top", 9))
        told.append([("top", 8)])
        self.assertEqual(traced(text), due_groups(text))


class GroupsCase(TracedCase):
    def check_groups(self, layout, groups):
        self.assertIsNone(fault_of(layout.pieces, layout.above, layout.tracks))
        self.check_told(self.asked(groups_of, layout), groups)
        self.assertEqual(traced(drawn(layout)), groups)


class GroupsTest(GroupsCase):
    def test_no_nets(self):
        self.check_groups(laid(made([None], [None])), [])
        self.check_groups(laid(made([None] * 3, [None] * 3, keeps=[(0, 2, 3)])), [])

    def test_one_net_with_a_stretch(self):
        self.check_groups(laid(made(["a", None, "a"], [None, "a", None])), [[("bottom", 1), ("top", 0), ("top", 2)]])

    def test_a_net_without_a_stretch(self):
        self.check_groups(laid(made(["a"], ["a"])), [[("bottom", 0), ("top", 0)]])
        self.check_groups(laid(made(["a", "b", "a"], [None, "b", None])), [
            [("bottom", 1), ("top", 1)],
            [("top", 0), ("top", 2)],
        ])

    def test_both_pins_of_a_column(self):
        self.check_groups(laid(made(["a", "a"], ["a", None])), [[("bottom", 0), ("top", 0), ("top", 1)]])

    def test_open_sides_with_their_tracks(self):
        channel = made(["a", "b"], ["b", None], left=["a", "b"], right=["b"])
        self.check_groups(with_tracks(channel, False, [0, 1]), [
            [("bottom", 0), ("left", 1), ("right", 1), ("top", 1)],
            [("left", 0), ("top", 0)],
        ])
        self.check_groups(with_tracks(channel, False, [2, 7]), [
            [("bottom", 0), ("left", 7), ("right", 7), ("top", 1)],
            [("left", 2), ("top", 0)],
        ])

    def test_a_net_open_to_both_sides_without_a_pin(self):
        self.check_groups(laid(made([None], [None], left=["a"], right=["a"])), [[("left", 0), ("right", 0)]])

    def test_the_first_track_of_a_wide_net_behind_a_keep(self):
        channel = made(["a", None], [None, None], right=["a"], wide=[("a", 3)], keeps=[(0, 0, 2)])
        self.check_groups(laid(channel), [[("right", 2), ("top", 0)]])

    def test_the_leftmost_and_the_rightmost_piece_of_a_bent_net(self):
        channel = made(
            [None] * 4, [None] * 4, left=["a", "b"], right=["a", "b"], bends=[(0, "a"), (1, "b"), (2, "a")]
        )
        self.check_groups(with_tracks(channel, True, [5, 3, 1, 2, 4]), [
            [("left", 2), ("right", 4)],
            [("left", 5), ("right", 1)],
        ])
        self.check_groups(with_tracks(channel, False, [1, 0]), [
            [("left", 0), ("right", 0)],
            [("left", 1), ("right", 1)],
        ])

    def test_a_bent_net_open_to_one_side(self):
        channel = made(["a", None, None], [None] * 3, right=["a"], bends=[(1, "a"), (2, "a")])
        self.check_groups(with_tracks(channel, True, [0, 1, 2]), [[("right", 2), ("top", 0)]])
        channel = made([None, None, "a"], [None] * 3, left=["a"], bends=[(0, "a"), (1, "a")])
        self.check_groups(with_tracks(channel, True, [2, 1, 0]), [[("left", 2), ("top", 2)]])

    def test_the_order_is_not_that_of_names(self):
        self.check_groups(laid(made(["z", "z", None, None], [None, None, "a", "a"])), [
            [("bottom", 2), ("bottom", 3)],
            [("top", 0), ("top", 1)],
        ])
        self.check_groups(laid(made(["z", "z", "a", "a"], [None] * 4)), [
            [("top", 0), ("top", 1)],
            [("top", 2), ("top", 3)],
        ])

    def test_numbers_as_numbers(self):
        pins = list(string.ascii_lowercase[:24])
        self.check_groups(laid(made(pins, pins)), [[("bottom", column), ("top", column)] for column in range(24)])
        self.check_groups(laid(made(["a"] * 11 + [None], [None] * 12, right=["a"])), [
            [("right", 0)] + [("top", column) for column in range(11)],
        ])


class ManyLayoutsTest(GroupsCase):
    def test_the_drawing_joins_each_net_and_nothing_else(self):
        chance = random.Random(4)
        seen = {"bent": 0, "straight": 0, "spread": 0}
        for channel in good_channels(60, 5) + tangled_channels(80, 5):
            for layout in sound_layouts(channel, chance):
                with self.subTest(vars(channel), bent=layout.bent, tracks=layout.tracks):
                    due = sorted(net_groups(layout).values())
                    self.check_groups(layout, due)
                    self.assertEqual(due_groups(drawn(layout)), due)
                    seen["bent" if layout.bent else "straight"] += 1
                    sides = [end for group in due for end in group if end[0] in ("left", "right")]
                    seen["spread"] += len({end[1] for end in sides}) > 2
        self.assertGreater(min(seen.values()), 100, seen)


if __name__ == "__main__":
    unittest.main()
