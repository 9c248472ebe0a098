import inspect
import random
import unittest

from making import (
    PRINTED, AskingCase, any_drawing, due_groups, good_channel, is_due, made, net_groups, plain, some_net,
    sound_layouts, spoil, with_tracks,
)
from wirechannel.changing import put_in
from wirechannel.drawing import drawn
from wirechannel.errors import BadBend, BadDrawing, BadPile, Lone, NoLayout, PinTaken, Taken, WireError
from wirechannel.layouts import Layout, fault_of, laid
from wirechannel.piles import checked_pile, drawn_pile, first_rows, pile_groups, pushed, traced_pile

HUGE = 10 ** 29


# Groups in which those that share an end with another one, or have ends that are linked, are made one.
def made_one(groups, links):
    groups = [set(group) for group in groups]
    for one, other in links:
        first = next(group for group in groups if one in group)
        second = next(group for group in groups if other in group)
        if first is not second:
            first |= second
            groups.remove(second)
    return sorted(sorted(group) for group in groups)


# Point 29, from the lists of the channels alone.
def due_pile_groups(layouts):
    groups = []
    links = []
    for k, layout in enumerate(layouts):
        groups += [[(k, *end) for end in group] for group in net_groups(layout).values()]
        for column, name in enumerate(layout.channel.bottom):
            if name is not None and k + 1 < len(layouts) and layouts[k + 1].channel.top[column] == name:
                links.append(((k, "bottom", column), (k + 1, "top", column)))
    return made_one(groups, links)


# Point 28: the rows of each drawing, and the rows between.
def parts_of(text):
    parts = [[]]
    borders = []
    for row in text.split("\n"):
        if row[:1] == "=":
            parts.append([])
            borders.append(row)
        else:
            parts[-1].append(row)
    return parts, borders


def is_due_pile(text):
    parts, borders = parts_of(text)
    if not all(rows and is_due("\n".join(rows)) for rows in parts) or len({len(row) for row in text.split("\n")}) != 1:
        return False
    for number, border in enumerate(borders):
        over, under = parts[number][-1], parts[number + 1][0]
        for place, sign in enumerate(border):
            if sign != "=" and (sign != "|" or place % 2 == 0 or over[place] != "|" or under[place] != "|"):
                return False
    return True


def due_traced_pile(text):
    parts, borders = parts_of(text)
    groups = [[(k, *end) for end in group] for k, rows in enumerate(parts) for group in due_groups("\n".join(rows))]
    links = []
    for k, border in enumerate(borders):
        columns = [(place - 1) // 2 for place, sign in enumerate(border) if sign == "|"]
        links += [((k, "bottom", column), (k + 1, "top", column)) for column in columns]
    return made_one(groups, links)


# Layouts of channels with as many columns, on any sound tracks, with many pins that are joined.
def some_pile(chance, count):
    columns = chance.choice([1, 2, 3, 4, 6, 10])
    apart = chance.choice([1, 1, 2])
    pile = []
    while len(pile) < count:
        channel = good_channel(chance, columns, apart)
        if pile and chance.random() < 0.9:
            channel = renamed(channel, names_beneath(pile[-1].channel, channel))
        layouts = sound_layouts(channel, chance)
        if layouts:
            pile.append(chance.choice(layouts))
    return pile


# For each NAME of the lower channel another one: that of a pin above one of its own, where that is free.
def names_beneath(over, under):
    given = {}
    for upper, lower in zip(over.bottom, under.top):
        if upper and lower and lower not in given and upper not in given.values():
            given[lower] = upper
    spare = [letter * 2 for letter in "bcdefghijklmnopqrstuvw" if letter * 2 not in given.values()]
    for name in under.top + under.bottom + under.left + under.right:
        if name and name not in given:
            given[name] = spare.pop()
    return given


def renamed(channel, names):
    names = {**names, None: None}
    return made(
        [names[pin] for pin in channel.top], [names[pin] for pin in channel.bottom],
        sorted(names[name] for name in channel.left), sorted(names[name] for name in channel.right),
        sorted((names[name], width) for name, width in channel.wide),
        [(column, names[name]) for column, name in channel.bends], channel.keeps,
    )


def plain_pile(layouts):
    return [plain(layout) for layout in layouts]


def empty(columns=2):
    return laid(made([None] * columns, [None] * columns))


class PileCase(AskingCase):
    def check_told(self, told, groups):
        self.assertEqual(told, groups)
        self.assertIs(type(told), list)
        for group in told:
            self.assertIs(type(group), list)
            for end in group:
                self.assertIs(type(end), tuple)
                self.assertEqual([type(part) for part in end], [int, str, int])

    # The pile's drawing, and what it joins.
    def check_pile(self, layouts, rows, groups):
        for layout in layouts:
            self.assertIsNone(fault_of(layout.pieces, layout.above, layout.tracks))
        self.assertIs(self.asked(checked_pile, layouts), True)
        text = self.asked(drawn_pile, layouts)
        self.assertEqual(text, "\n".join(rows))
        self.assertIs(type(text), str)
        self.check_told(self.asked(pile_groups, layouts), groups)
        self.check_told(self.asked(traced_pile, text), groups)
        self.assertEqual(due_pile_groups(layouts), groups)

    def check_traced(self, rows, groups):
        text = "\n".join(rows)
        self.assertTrue(is_due_pile(text))
        self.assertEqual(due_traced_pile(text), groups)
        self.check_told(self.asked(traced_pile, text), groups)

    def check_bad(self, rows):
        text = rows if isinstance(rows, str) else "\n".join(rows)
        self.assertFalse(is_due_pile(text))
        self.refused(BadDrawing, [], traced_pile, text)


NET = ("z", [("top", 0), ("bottom", 0)])


class CheckedTest(PileCase):
    def asks(self):
        return [checked_pile, first_rows, drawn_pile, pile_groups, lambda layouts: pushed(layouts, 0, *NET)]

    def test_one_two_and_eight(self):
        for count in (1, 2, 3, 8):
            layouts = [empty() for turn in range(count)]
            self.assertIs(self.asked(checked_pile, layouts), True)

    def test_the_same_layout_twice(self):
        layout = empty()
        self.assertIs(self.asked(checked_pile, [layout, layout]), True)

    def test_other_counts_and_kinds_do_not_matter(self):
        layouts = [laid(made(["a", None], [None, "a"])), empty(), laid(made([None] * 2, [None] * 2, keeps=[(0, 0, 3)]))]
        self.assertIs(self.asked(checked_pile, layouts), True)

    def test_an_empty_list(self):
        for place, ask in enumerate(self.asks()):
            with self.subTest(place):
                self.refused(BadPile, [], ask, [])

    def test_two_widths_that_differ(self):
        for place, ask in enumerate(self.asks()):
            for widths in ((1, 2), (2, 1), (40, 39), (2, 2, 3), (3, 2, 2), (2, 3, 2), (2,) * 7 + (3,), (1, 2, 3)):
                with self.subTest(place, widths=widths):
                    self.refused(BadPile, [], ask, [empty(width) for width in widths])


class FirstRowsTest(PileCase):
    def check_rows(self, layouts, rows):
        told = self.asked(first_rows, layouts)
        self.assertEqual(told, rows)
        self.assertEqual([type(row) for row in told], [int] * len(rows))
        lines = drawn_pile(layouts).split("\n")
        for row, layout in zip(rows, layouts):
            text = drawn(layout).split("\n")
            self.assertEqual(lines[row:row + len(text)], text)

    def test_one(self):
        self.check_rows([empty()], [0])
        self.check_rows([laid(made(["a", "a"], ["b", "b"]))], [0])

    def test_without_tracks(self):
        self.check_rows([empty(), empty()], [0, 2])
        self.check_rows([empty()] * 8, [0, 2, 4, 6, 8, 10, 12, 14])

    def test_with_tracks(self):
        one = laid(made(["a", "a"], [None] * 2))
        three = laid(made(["a", "a"], [None] * 2, wide=[("a", 3)]))
        self.check_rows([one, three, empty(), one], [0, 4, 12, 14])
        self.check_rows([three, one], [0, 8])
        self.check_rows([with_tracks(one.channel, False, [9]), one], [0, 22])


class DrawnPileTest(PileCase):
    def test_one(self):
        self.check_pile([empty(1)], ["   "], [])
        self.check_pile([laid(made(["a", None], ["a", None]))], [" |   "], [[(0, "bottom", 0), (0, "top", 0)]])
        self.check_pile([laid(made(["a", "a"], [None] * 2))], [
            " | | ",
            " +-+ ",
            "     ",
        ], [[(0, "top", 0), (0, "top", 1)]])

    def test_nothing_is_joined(self):
        self.check_pile([empty(), empty()], ["     ", "=====", "     "], [])

    def test_joined_and_not(self):
        over = laid(made(["a", "a", None, None], ["a", "b", "b", None]))
        under = laid(made(["a", "b", "c", None], ["c", None, None, "a"], right=["b"]))
        self.check_pile([over, under], [
            " | |     ",
            " +-+     ",
            " |       ",
            " | +-+   ",
            " | | |   ",
            "=|=|=====",
            " | | |   ",
            " +-#-#-+ ",
            "   | | | ",
            " +-#-+ | ",
            " | |   | ",
            " | +---#-",
            " |     | ",
        ], [
            [(0, "bottom", 0), (0, "top", 0), (0, "top", 1), (1, "bottom", 3), (1, "top", 0)],
            [(0, "bottom", 1), (0, "bottom", 2), (1, "right", 2), (1, "top", 1)],
            [(1, "bottom", 0), (1, "top", 2)],
        ])

    def test_a_joint_just_where_both_pins_are_of_one_name(self):
        over = laid(made([None] * 5, ["a", "a", "b", "b", None]))
        under = laid(made(["a", "b", "b", None, "a"], [None] * 5))
        self.check_pile([over, under], [
            "           ",
            " +-+ +-+   ",
            " | | | |   ",
            "=|===|=====",
            " | | |   | ",
            " +-#-#---+ ",
            "   | |     ",
            "   +-+     ",
            "           ",
        ], [
            [(0, "bottom", 0), (0, "bottom", 1), (1, "top", 0), (1, "top", 4)],
            [(0, "bottom", 2), (0, "bottom", 3), (1, "top", 1), (1, "top", 2)],
        ])

    def test_pins_of_one_name_in_two_columns_are_not_joined(self):
        over = laid(made(["a", None], [None, "a"]))
        under = laid(made(["a", None], ["a", None]))
        self.check_pile([over, under], [
            " |   ",
            " +-+ ",
            "   | ",
            "=====",
            " |   ",
        ], [[(0, "bottom", 1), (0, "top", 0)], [(1, "bottom", 0), (1, "top", 0)]])

    def test_open_sides_of_one_name_are_not_joined(self):
        layout = laid(made([None], [None], left=["a"], right=["a"]))
        self.check_pile([layout, layout], [
            "   ",
            "---",
            "   ",
            "===",
            "   ",
            "---",
            "   ",
        ], [[(0, "left", 0), (0, "right", 0)], [(1, "left", 0), (1, "right", 0)]])

    def test_the_same_layout_twice(self):
        layout = laid(made(["a", "b"], ["a", None], right=["b"]))
        self.check_pile([layout, layout], [
            " | | ",
            " | +-",
            " |   ",
            "=|===",
            " | | ",
            " | +-",
            " |   ",
        ], [
            [(0, "bottom", 0), (0, "top", 0), (1, "bottom", 0), (1, "top", 0)],
            [(0, "right", 0), (0, "top", 1)],
            [(1, "right", 0), (1, "top", 1)],
        ])

    def test_eight_without_tracks(self):
        layout = laid(made(["a", "b"], ["a", "b"]))
        self.check_pile([layout] * 8, ([" | | ", "=|=|="] * 8)[:-1], [
            [(k, side, 0) for k in range(8) for side in ("bottom", "top")],
            [(k, side, 1) for k in range(8) for side in ("bottom", "top")],
        ])

    def test_one_through_several_layouts(self):
        over = laid(made(["a", None], [None, "a"]))
        between = laid(made([None, "a"], ["a", None]))
        self.check_pile([over, between, over], [
            " |   ",
            " +-+ ",
            "   | ",
            "===|=",
            "   | ",
            " +-+ ",
            " |   ",
            "=|===",
            " |   ",
            " +-+ ",
            "   | ",
        ], [[
            (0, "bottom", 1), (0, "top", 0), (1, "bottom", 0), (1, "top", 1), (2, "bottom", 1), (2, "top", 0),
        ]])

    def test_one_that_comes_back_up(self):
        over = laid(made(["a", "c", "b", "b"], ["a", "c", None, "b"]))
        between = laid(made(["a", "c", None, "b"], ["a", "c", None, "b"]))
        under = laid(made(["a", None, None, "b"], ["b", None, None, "b"], left=["a"]))
        self.assertEqual(under.tracks, [0, 1])
        self.check_pile([over, between, under], [
            " | | | | ",
            " | | +-+ ",
            " | |   | ",
            "=|=|===|=",
            " | |   | ",
            "=|=====|=",
            " |     | ",
            "-+     | ",
            "       | ",
            " +-----+ ",
            " |     | ",
        ], [
            [(0, "bottom", 0), (0, "top", 0), (1, "bottom", 0), (1, "top", 0), (2, "left", 0), (2, "top", 0)],
            [(0, "bottom", 1), (0, "top", 1), (1, "bottom", 1), (1, "top", 1)],
            [
                (0, "bottom", 3), (0, "top", 2), (0, "top", 3), (1, "bottom", 3), (1, "top", 3),
                (2, "bottom", 0), (2, "bottom", 3), (2, "top", 3),
            ],
        ])

    def test_two_nets_of_one_layout_that_another_one_makes_one(self):
        over = laid(made(["a", "b"], ["a", "b"]))
        turned = laid(made(["a", "a"], [None] * 2))
        self.check_pile([over, turned], [
            " | | ",
            "=|===",
            " | | ",
            " +-+ ",
            "     ",
        ], [[(0, "bottom", 0), (0, "top", 0), (1, "top", 0), (1, "top", 1)], [(0, "bottom", 1), (0, "top", 1)]])
        under = laid(made(["a", "a", None], [None, None, None], right=["a"]))
        over = laid(made([None, None, "a"], ["a", "a", None]))
        self.check_pile([over, under], [
            "     | ",
            " +-+-+ ",
            " | |   ",
            "=|=|===",
            " | |   ",
            " +-+---",
            "       ",
        ], [[
            (0, "bottom", 0), (0, "bottom", 1), (0, "top", 2), (1, "right", 0), (1, "top", 0), (1, "top", 1),
        ]])

    def test_wide_nets_keeps_and_bends(self):
        over = laid(made(["a", None, "b"], ["b", None, "a"], bends=[(1, "a")]))
        under = laid(made(["b", None, "a"], [None] * 3, left=["b"], right=["a"], wide=[("a", 2)], keeps=[(0, 0, 1)]))
        self.check_pile([over, under], [
            " |   | ",
            " +-+ | ",
            "   | | ",
            " +-#-+ ",
            " | |   ",
            " | +-+ ",
            " |   | ",
            "=|===|=",
            " |   | ",
            " |   +-",
            " |     ",
            "-+     ",
            "       ",
        ], [
            [(0, "bottom", 0), (0, "top", 2), (1, "left", 1), (1, "top", 0)],
            [(0, "bottom", 2), (0, "top", 0), (1, "right", 0), (1, "top", 2)],
        ])

    def test_forty_columns(self):
        layout = laid(made(["a"] + [None] * 38 + ["b"], ["a"] + [None] * 38 + ["b"]))
        row = " |" + " " * 77 + "| "
        self.check_pile([layout, layout], [row, "=|" + "=" * 77 + "|=", row], [
            [(0, "bottom", 0), (0, "top", 0), (1, "bottom", 0), (1, "top", 0)],
            [(0, "bottom", 39), (0, "top", 39), (1, "bottom", 39), (1, "top", 39)],
        ])


class TracedPileTest(PileCase):
    def test_one_drawing(self):
        self.check_traced(["   "], [])
        self.check_traced([" | "], [[(0, "bottom", 0), (0, "top", 0)]])
        self.check_traced([" | ", "-+ ", "   "], [[(0, "left", 0), (0, "top", 0)]])

    def test_ends_at_a_row_between_joined(self):
        self.check_traced([
            " | ",
            "=|=",
            " | ",
        ], [[(0, "bottom", 0), (0, "top", 0), (1, "bottom", 0), (1, "top", 0)]])

    def test_ends_at_a_row_between_not_joined(self):
        self.check_traced([
            " | ",
            "===",
            " | ",
        ], [[(0, "bottom", 0), (0, "top", 0)], [(1, "bottom", 0), (1, "top", 0)]])

    def test_ends_at_a_row_between_of_one_drawing_alone(self):
        self.check_traced([
            " | ",
            "===",
            "   ",
        ], [[(0, "bottom", 0), (0, "top", 0)]])
        self.check_traced([
            "   ",
            "===",
            " | ",
        ], [[(1, "bottom", 0), (1, "top", 0)]])

    def test_no_ends(self):
        self.check_traced(["   ", "===", "   ", "===", "   "], [])

    def test_all_four_edges_of_each(self):
        self.check_traced([
            " | | ",
            "-+-#-",
            " | | ",
            "=|===",
            " | | ",
            "-#-+-",
            " | | ",
        ], [
            [(0, "bottom", 0), (0, "left", 0), (0, "right", 0), (0, "top", 0), (1, "bottom", 0), (1, "top", 0)],
            [(0, "bottom", 1), (0, "top", 1)],
            [(1, "bottom", 1), (1, "left", 0), (1, "right", 0), (1, "top", 1)],
        ])

    def test_tracks_are_told_within_their_drawing(self):
        self.check_traced([
            "   ",
            "---",
            "   ",
            "---",
            "   ",
            "===",
            "   ",
            "---",
            "   ",
        ], [[(0, "left", 0), (0, "right", 0)], [(0, "left", 1), (0, "right", 1)], [(1, "left", 0), (1, "right", 0)]])

    def test_down_and_up_again(self):
        self.check_traced([
            " | | ",
            " | | ",
            " | | ",
            "=|=|=",
            " | | ",
            " +-+ ",
            "     ",
            "=====",
            "     ",
        ], [[(0, "bottom", 0), (0, "bottom", 1), (0, "top", 0), (0, "top", 1), (1, "top", 0), (1, "top", 1)]])

    def test_a_ring_through_two_drawings(self):
        self.check_traced([
            "     ",
            " +-+ ",
            " | | ",
            "=|=|=",
            " | | ",
            " +-+ ",
            "     ",
        ], [[(0, "bottom", 0), (0, "bottom", 1), (1, "top", 0), (1, "top", 1)]])

    def test_numbers_as_numbers(self):
        rows = (["   ", "---", "   ", "==="] * 12)[:-1]
        self.check_traced(rows, [[(k, "left", 0), (k, "right", 0)] for k in range(12)])
        row = " |" * 12 + " "
        self.check_traced([row, "=" * 25, row], [
            [(k, "bottom", column), (k, "top", column)] for k in range(2) for column in range(12)
        ])

    def test_told_lists_are_the_askers_own(self):
        text = " | \n=|=\n | "
        told = traced_pile(text)
        spoil(told)
        self.assertEqual(traced_pile(text), due_traced_pile(text))

    def test_the_longest_texts(self):
        columns = 9999
        row = " |" * columns + " "
        told = traced_pile("\n".join([row, "=|" * columns + "=", row]))
        self.assertEqual(told, [
            [(k, side, column) for k in range(2) for side in ("bottom", "top")] for column in range(columns)
        ])
        told = traced_pile("\n".join(([" | ", "=|="] * 7500)[:-1]))
        self.assertEqual([len(group) for group in told], [15000])


class BadPileDrawingTest(PileCase):
    def test_the_empty_text(self):
        self.check_bad("")

    def test_no_drawing_at_all(self):
        self.check_bad(" ")
        self.check_bad("=")
        self.check_bad("===")
        self.check_bad("===\n===")
        self.check_bad("=|=")
        self.check_bad("\n")

    def test_a_row_between_as_the_first_row(self):
        self.check_bad(["===", " | "])
        self.check_bad(["=|=", " | "])
        self.check_bad(["===", "   ", "===", "   "])

    def test_a_row_between_as_the_last_row(self):
        self.check_bad([" | ", "==="])
        self.check_bad([" | ", "=|="])
        self.check_bad(["   ", "===", "   ", "==="])

    def test_two_rows_between_one_behind_the_other(self):
        self.check_bad(["   ", "===", "===", "   "])
        self.check_bad([" | ", "=|=", "=|=", " | "])
        self.check_bad(["   ", "===", "===", "===", "   "])

    def test_a_line_feed_behind_the_last_row(self):
        self.check_bad("   \n===\n   \n")
        self.check_bad("   \n")
        self.check_bad("   \n===\n")

    def test_an_empty_row(self):
        self.check_bad("   \n===\n\n   ")
        self.check_bad("\n===\n   ")
        self.check_bad("   \n\n===\n   ")
        self.check_bad("   \n===\n")

    def test_a_part_that_is_no_drawing(self):
        good = [" | ", "-+-", " | "]
        for bad in ([" | ", "-+-"], [" | ", "-x-", " | "], [" | ", "---", " | "], ["   ", "-| ", "   "], ["-+-"]):
            self.check_bad(bad)
            self.check_bad(bad + ["==="] + good)
            self.check_bad(good + ["==="] + bad)
            self.check_bad(good + ["==="] + bad + ["==="] + good)

    def test_parts_that_together_are_no_drawing(self):
        self.check_bad([" | ", "=|=", " | ", " | "])
        self.check_bad(["   ", "   ", "===", "   "])

    def test_drawings_of_two_lengths(self):
        self.check_bad(["   ", "===", "     "])
        self.check_bad(["     ", "===", "   "])
        self.check_bad(["   ", "=====", "     "])
        self.check_bad(["   ", "===", "   ", "===", "     "])

    def test_a_row_between_of_another_length(self):
        for border in ("=", "==", "====", "=====", "=|===", "=|==", "=|"):
            self.check_bad([" | ", border, " | "])
        for border in ("=", "==", "===", "====", "======", "=======", "=|=|", "=|=|=|=", "=|=|=="):
            self.check_bad([" | | ", border, " | | "])

    def test_other_signs_in_a_row_between(self):
        rows = [" | | ", "=|=|=", " | | "]
        for place in range(1, 5):
            for sign in PRINTED:
                changed = [rows[0], rows[1][:place] + sign + rows[1][place + 1:], rows[2]]
                with self.subTest(changed):
                    if sign == "=" or (sign == "|" and place in (1, 3)):
                        self.check_traced(changed, due_traced_pile("\n".join(changed)))
                    else:
                        self.check_bad(changed)

    def test_another_first_sign_makes_it_no_row_between(self):
        for sign in PRINTED:
            if sign != "=":
                self.check_bad([" | | ", sign + "|=|=", " | | "])

    def test_an_upright_between_columns(self):
        self.check_bad([" | | ", "=|||=", " | | "])
        self.check_bad([" | | ", "==|==", " | | "])
        self.check_bad([" | | ", "====|", " | | "])

    def test_an_upright_with_none_straight_above(self):
        self.check_bad(["   ", "=|=", " | "])
        self.check_bad([" |   ", "===|=", " | | "])
        self.check_bad([" | ", " + ", "   ", "=|=", " | "])

    def test_an_upright_with_none_straight_beneath(self):
        self.check_bad([" | ", "=|=", "   "])
        self.check_bad([" | | ", "===|=", " |   "])
        self.check_bad([" | ", "=|=", "   ", " + ", " | "])

    def test_an_upright_with_none_on_both_sides(self):
        self.check_bad(["   ", "=|=", "   "])

    def test_in_a_later_row_between(self):
        self.check_bad([" | ", "=|=", " | ", "=|=", "   "])
        self.check_bad([" | ", "=|=", " | ", "=|x", " | "])
        self.check_bad(["   ", "===", "   ", "=|=", " | "])

    def test_many_rows_between_and_nothing_else(self):
        self.check_bad("=\n" * 20000)


class PushedTest(PileCase):
    def layouts(self):
        return [
            laid(made(["a", None, None], [None, None, "a"])),
            laid(made([None, None, "a"], ["a", None, "b"], right=["b"])),
            laid(made(["a", None, "b"], [None, None, "b"], left=["a"], keeps=[(1, 1, 2)])),
        ]

    def check_pushed(self, layouts, k, net):
        told = self.asked(pushed, layouts, k, *net)
        self.assertIs(type(told), list)
        self.assertEqual([type(layout) for layout in told], [Layout] * len(layouts))
        for number, layout in enumerate(layouts):
            due = put_in(layout, *net) if number == k else layout
            self.assertEqual(plain(told[number]), plain(due))
        grown = 2 * (told[k].count - layouts[k].count)
        rows = first_rows(layouts)
        self.assertEqual(first_rows(told), rows[:k + 1] + [row + grown for row in rows[k + 1:]])
        groups = due_pile_groups(told)
        self.assertEqual(pile_groups(told), groups)
        self.assertEqual(traced_pile(drawn_pile(told)), groups)
        return told

    def test_signature(self):
        words = "(layouts, k, name, pins, left=False, right=False, width=1)"
        self.assertEqual(str(inspect.signature(pushed)), words)
        told = pushed(layouts=self.layouts(), k=1, name="c", pins=[("top", 0)], left=True, right=False, width=2)
        self.assertEqual(told[1].channel.wide, [("c", 2)])
        self.assertEqual(told[1].channel.left, ["c"])
        told = pushed(self.layouts(), 1, "c", [("top", 0)], right=True)
        self.assertEqual(told[1].channel.right, ["b", "c"])

    def test_at_each_layout(self):
        for k in range(3):
            told = self.check_pushed(self.layouts(), k, ("c", [("top", 1)], False, True, 3))
            self.assertEqual([("c", 3) in layout.channel.wide for layout in told], [number == k for number in range(3)])

    def test_one_layout(self):
        self.check_pushed([empty()], 0, ("a", [("top", 0), ("bottom", 1)]))

    def test_eight_layouts(self):
        layouts = [laid(made(["a", None], [None, "a"])) for turn in range(8)]
        for k in range(8):
            told = self.check_pushed(layouts, k, ("b", [("top", 1)], True))
            self.assertEqual(first_rows(told)[-1], 7 * 4 + (2 if k < 7 else 0))

    def test_the_same_layout_twice(self):
        layout = laid(made(["a", None], [None, "a"]))
        told = self.check_pushed([layout, layout, layout], 1, ("b", [("bottom", 0)], False, True))
        self.assertEqual([told_layout.count for told_layout in told], [1, 2, 1])
        spoil(told[0])
        self.assertEqual(plain(told[2]), plain(layout))

    def test_where_nothing_grows(self):
        layouts = [laid(made(["a", "a", None], [None] * 3)), empty(3)]
        told = self.check_pushed(layouts, 0, ("b", [("top", 2)], False, True))
        self.assertEqual(first_rows(told), [0, 4])
        told = self.check_pushed(layouts, 0, ("b", [("top", 2), ("bottom", 2)]))
        self.assertEqual(first_rows(told), [0, 4])

    def test_what_grows_by_the_width(self):
        for width in (1, 2, 3):
            layouts = [empty(), laid(made([None] * 2, ["b", "b"])), empty()]
            told = self.check_pushed(layouts, 1, ("a", [("top", 0)], True, False, width))
            self.assertEqual(first_rows(told), [0, 2, 6 + 2 * width])

    def test_a_pin_that_joins_it(self):
        layouts = [laid(made(["c", None], ["c", None])), empty()]
        told = self.check_pushed(layouts, 1, ("c", [("top", 0)], False, True))
        self.assertEqual(pile_groups(told), [[(0, "bottom", 0), (0, "top", 0), (1, "right", 0), (1, "top", 0)]])

    def test_no_layout_k(self):
        layouts = self.layouts()
        for k in (-1, 3, -3, -4, 4, HUGE, -HUGE, 10 * HUGE, -10 * HUGE):
            with self.subTest(k):
                self.refused(BadPile, [], pushed, layouts, k, "c", [("top", 1)], True)
        self.refused(BadPile, [], pushed, [empty()], 1, *NET)
        self.refused(BadPile, [], pushed, [empty()], -1, *NET)

    def test_no_layout_k_goes_ahead_of_put_in(self):
        for k in (-1, 3, HUGE):
            self.refused(BadPile, [], pushed, self.layouts(), k, "a", [("top", 1)])
            self.refused(BadPile, [], pushed, self.layouts(), k, "c", [("top", -1)])
            self.refused(BadPile, [], pushed, self.layouts(), k, "c", [("top", 1)])

    def test_a_bad_pile_goes_ahead_of_put_in(self):
        layouts = [laid(made(["a", None], [None, "a"])), empty(3)]
        self.refused(BadPile, [], pushed, layouts, 0, "a", [("top", 9)])
        self.refused(BadPile, [], pushed, [], 0, "a", [("top", 9)])

    def test_refuses_as_put_in_does(self):
        bent = laid(made(["a", None, "a", None], [None, None, "c", "c"], bends=[(1, "a")]))
        layouts = [empty(4), bent, laid(made(["b", None, None, None], [None, "b", None, None]))]
        for k, net, refusal, fields in (
            (1, ("a", [("top", 9)]), Taken, {"word": "a"}),
            (1, ("d", [("top", 9)]), PinTaken, {"pin": ("top", 9)}),
            (0, ("d", [("bottom", HUGE)]), PinTaken, {"pin": ("bottom", HUGE)}),
            (1, ("d", [("bottom", 1)]), Lone, {"word": "d"}),
            (1, ("d", [("bottom", 1), ("bottom", 0)]), BadBend, {"column": 1}),
            (2, ("a", [("bottom", 0), ("top", 1)]), NoLayout, None),
        ):
            with self.subTest(net):
                refused = self.refused(refusal, fields or ["pieces", "ring"], pushed, layouts, k, *net)
                with self.assertRaises(refusal) as caught:
                    put_in(layouts[k], *net)
                self.assertEqual(vars(refused), vars(caught.exception))
                if fields:
                    self.assertEqual(vars(refused), fields)

    def test_what_was_told_may_be_changed(self):
        layouts = self.layouts()
        before = plain_pile(layouts)
        told = pushed(layouts, 1, "c", [("top", 0)], True)
        first = plain_pile(told)
        spoil(told)
        self.assertEqual(plain_pile(layouts), before)
        self.assertEqual(plain_pile(pushed(layouts, 1, "c", [("top", 0)], True)), first)

    def test_what_was_handed_in_may_be_changed(self):
        layouts = self.layouts()
        pins = [("top", 0)]
        told = pushed(layouts, 1, "c", pins, True)
        first = plain_pile(told)
        spoil(layouts)
        spoil(pins)
        self.assertEqual(plain_pile(told), first)


class ManyTest(PileCase):
    def test_the_drawing_joins_just_the_groups(self):
        chance = random.Random(31)
        seen = {"joints": 0, "several": 0, "bent": 0, "eight": 0}
        for turn in range(200):
            layouts = some_pile(chance, chance.choice([1, 2, 2, 3, 4, 8]))
            with self.subTest(plain_pile(layouts)):
                due = due_pile_groups(layouts)
                text = self.asked(drawn_pile, layouts)
                self.check_told(self.asked(pile_groups, layouts), due)
                self.check_told(self.asked(traced_pile, text), due)
                self.assertEqual(due_traced_pile(text), due)
                self.check_rows(layouts, text.split("\n"))
            seen["joints"] += sum(row.count("|") for row in text.split("\n") if row[0] == "=")
            seen["several"] += any(len({end[0] for end in group}) > 2 for group in due)
            seen["bent"] += any(layout.bent for layout in layouts)
            seen["eight"] += len(layouts) == 8
        self.assertGreater(min(seen.values()), 15, seen)
        self.assertGreater(seen["joints"], 150, seen)

    # Point 28, row by row.
    def check_rows(self, layouts, rows):
        at = 0
        begins = []
        for number, layout in enumerate(layouts):
            if number:
                pins = zip(layouts[number - 1].channel.bottom, layout.channel.top)
                self.assertEqual(rows[at], "=" + "".join("|=" if a and a == b else "==" for a, b in pins))
                at += 1
            begins.append(at)
            text = drawn(layout).split("\n")
            self.assertEqual(rows[at:at + len(text)], text)
            at += len(text)
        self.assertEqual(len(rows), at)
        self.assertEqual(first_rows(layouts), begins)

    def test_pushed(self):
        chance = random.Random(32)
        seen = {"told": 0, "refused": 0}
        for turn in range(150):
            layouts = some_pile(chance, chance.choice([1, 2, 3, 8]))
            for step in range(4):
                k = chance.randrange(len(layouts))
                net = some_net(layouts[k].channel, chance)
                before = plain_pile(layouts)
                try:
                    told = pushed(layouts, k, *net)
                except WireError as refusal:
                    with self.assertRaises(type(refusal)):
                        put_in(layouts[k], *net)
                    self.assertEqual(plain_pile(layouts), before)
                    seen["refused"] += 1
                    continue
                seen["told"] += 1
                self.assertEqual(plain_pile(layouts), before)
                due = [plain(put_in(layouts[k], *net)) if number == k else one for number, one in enumerate(before)]
                self.assertEqual(plain_pile(told), due)
                grown = 2 * (told[k].count - layouts[k].count)
                rows = first_rows(layouts)
                self.assertEqual(first_rows(told), rows[:k + 1] + [row + grown for row in rows[k + 1:]])
                self.assertEqual(traced_pile(drawn_pile(told)), due_pile_groups(told))
                self.assertEqual(pile_groups(told), due_pile_groups(told))
                layouts = told
        self.assertGreater(min(seen.values()), 100, seen)

    def test_any_drawings_and_signs_changed(self):
        chance = random.Random(33)
        seen = {True: 0, False: 0}
        for turn in range(800):
            columns = chance.randint(1, 5)
            text = any_drawing(chance, chance.randint(0, 3), columns)
            for step in range(chance.choice([0, 1, 2, 3])):
                under = any_drawing(chance, chance.randint(0, 3), columns)
                facing = list(zip(text.split("\n")[-1], under.split("\n")[0]))
                wanted = chance.choice([0, 0.5, 1])
                border = "".join("|" if pair == ("|", "|") and chance.random() < wanted else "=" for pair in facing)
                text += "\n" + border + "\n" + under
            if turn % 2:
                place = chance.randrange(len(text))
                text = text[:place] + chance.choice(" -|+#==\nx") + text[place + 1:]
            with self.subTest(text):
                due = is_due_pile(text)
                seen[due] += 1
                if due:
                    self.check_told(self.asked(traced_pile, text), due_traced_pile(text))
                else:
                    self.check_bad(text)
        self.assertGreater(min(seen.values()), 200, seen)


if __name__ == "__main__":
    unittest.main()
