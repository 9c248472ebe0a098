import itertools
import unittest

from making import good_channels, made
from wirechannel.checking import checked_channel
from wirechannel.pieces import common_of, pieces_at, pieces_of


def whole():
    return made(
        ["b", "west", "c", None, "b", None, "d", None],
        ["east", "c", None, None, "d", None, "b", None],
        left=["open", "west"], right=["east", "open"],
        wide=[("b", 3), ("open", 2)],
        bends=[(3, "open"), (4, "b"), (5, "d"), (7, "open")],
        keeps=[(2, 4, 2), (0, 1, 1), (2, 4, 2)],
    )


KEPT = [(None, 2, 4, 2), (None, 0, 1, 1), (None, 2, 4, 2)]
STRAIGHT = KEPT + [
    ("b", 0, 6, 3), ("c", 1, 2, 1), ("d", 4, 6, 1), ("east", 0, 8, 1), ("open", -1, 8, 2), ("west", -1, 1, 1),
]
BENT = KEPT + [
    ("b", 0, 4, 3), ("b", 4, 6, 3), ("c", 1, 2, 1), ("d", 4, 5, 1), ("d", 5, 6, 1), ("east", 0, 8, 1),
    ("open", -1, 3, 2), ("open", 3, 7, 2), ("open", 7, 8, 2), ("west", -1, 1, 1),
]


# The pieces by their meaning: each column of each net, and where its pieces end.
def due_pieces(channel, bent):
    pieces = [(None,) + keep for keep in channel.keeps]
    names = sorted(set(channel.top + channel.bottom + channel.left + channel.right) - {None})
    for name in names:
        held = [column for row in (channel.top, channel.bottom) for column, pin in enumerate(row) if pin == name]
        held += [-1] * (name in channel.left) + [len(channel.top)] * (name in channel.right)
        if min(held) < max(held):
            cuts = {min(held), max(held)} | {column for column, pin in channel.bends if bent and pin == name}
            width = dict(channel.wide).get(name, 1)
            pieces += [(name, first, last, width) for first, last in itertools.pairwise(sorted(cuts))]
    return pieces


class PiecesOfTest(unittest.TestCase):
    def test_the_channel_of_these_tests_is_good(self):
        self.assertIs(checked_channel(whole()), True)

    def test_not_bent(self):
        self.assertEqual(pieces_of(whole(), False), STRAIGHT)
        self.assertEqual(pieces_of(whole(), bent=False), STRAIGHT)

    def test_not_bent_where_the_argument_is_left_out(self):
        self.assertEqual(pieces_of(whole()), STRAIGHT)

    def test_bent(self):
        self.assertEqual(pieces_of(whole(), True), BENT)
        self.assertEqual(pieces_of(whole(), bent=True), BENT)

    def test_tuples_in_a_list(self):
        for bent in (False, True):
            pieces = pieces_of(whole(), bent)
            self.assertIs(type(pieces), list)
            for piece in pieces:
                self.assertIs(type(piece), tuple)
                self.assertEqual([type(member) for member in piece[1:]], [int, int, int])

    def test_no_net_and_no_keep(self):
        for bent in (False, True):
            self.assertEqual(pieces_of(made([None], [None]), bent), [])

    def test_the_keeps_pieces_come_first_and_in_order(self):
        for keeps in itertools.permutations([(3, 3, 1), (0, 3, 2), (0, 1, 3), (0, 1, 3)]):
            channel = made(["a", None, None, "a"], [None] * 4, keeps=keeps)
            for bent in (False, True):
                due = [(None,) + keep for keep in keeps] + [("a", 0, 3, 1)]
                self.assertEqual(pieces_of(channel, bent), due)

    def test_keeps_alone(self):
        self.assertEqual(pieces_of(made([None] * 3, [None] * 3, keeps=[(0, 2, 3)])), [(None, 0, 2, 3)])

    def test_nets_by_rising_names(self):
        names = ["b", "ab", "a", "zz", "aa", "z"]
        channel = made(names + [None], [None] + names)
        due = [(name, names.index(name), names.index(name) + 1, 1) for name in ["a", "aa", "ab", "b", "z", "zz"]]
        self.assertEqual(pieces_of(channel), due)

    def test_nets_without_a_stretch_have_none(self):
        channel = made(["a", "b", None], ["a", None, "b"], wide=[("a", 3)])
        for bent in (False, True):
            self.assertEqual(pieces_of(channel, bent), [("b", 1, 2, 1)])

    def test_open_to_the_left_and_to_the_right(self):
        self.assertEqual(pieces_of(made(["a"], [None], left=["a"])), [("a", -1, 0, 1)])
        self.assertEqual(pieces_of(made(["a"], [None], right=["a"])), [("a", 0, 1, 1)])
        channel = made([None] * 40, [None] * 40, left=["a"], right=["a"], wide=[("a", 2)], bends=[(0, "a"), (39, "a")])
        self.assertEqual(pieces_of(channel), [("a", -1, 40, 2)])
        self.assertEqual(pieces_of(channel, True), [("a", -1, 0, 2), ("a", 0, 39, 2), ("a", 39, 40, 2)])

    def test_cut_at_the_columns_of_its_own_bends_alone(self):
        channel = made(
            ["a"] + [None] * 5 + ["a", None], [None, "b"] + [None] * 5 + ["b"], bends=[(2, "b"), (3, "a"), (5, "b")],
        )
        self.assertEqual(pieces_of(channel), [("a", 0, 6, 1), ("b", 1, 7, 1)])
        due = [("a", 0, 3, 1), ("a", 3, 6, 1), ("b", 1, 2, 1), ("b", 2, 5, 1), ("b", 5, 7, 1)]
        self.assertEqual(pieces_of(channel, True), due)

    def test_bent_at_each_column(self):
        channel = made(["a"] * 4, ["a"] * 4, left=["a"], right=["a"], bends=[(column, "a") for column in range(4)])
        self.assertEqual(pieces_of(channel, True), [("a", column, column + 1, 1) for column in range(-1, 4)])

    def test_all_pieces_have_the_width_of_their_net(self):
        for width in (2, 3):
            channel = made(["a", None, None, "a"], [None] * 4, wide=[("a", width)], bends=[(1, "a"), (2, "a")])
            due = [("a", 0, 1, width), ("a", 1, 2, width), ("a", 2, 3, width)]
            self.assertEqual(pieces_of(channel, True), due)

    def test_many(self):
        for channel in good_channels(300):
            for bent in (False, True):
                with self.subTest(bent=bent, channel=vars(channel)):
                    self.assertEqual(pieces_of(channel, bent), due_pieces(channel, bent))

    def test_changing_a_told_list_changes_no_later_answer(self):
        channel = whole()
        for bent, due in ((False, STRAIGHT), (True, BENT)):
            told = pieces_of(channel, bent)
            told.append(("x", 0, 1, 1))
            told[0] = ("y", 0, 1, 1)
            self.assertEqual(pieces_of(channel, bent), due)
            self.assertEqual(vars(channel), vars(whole()))
            pieces_of(channel, bent).clear()
            self.assertEqual(pieces_of(channel, bent), due)

    def test_what_is_handed_in_stays(self):
        for one, other in zip(good_channels(50), good_channels(50)):
            pieces_of(one)
            pieces_of(one, True)
            self.assertEqual(vars(one), vars(other))

    def test_a_later_answer_fits_a_changed_channel(self):
        channel = made(["a", None, "a"], [None] * 3)
        self.assertEqual(pieces_of(channel), [("a", 0, 2, 1)])
        channel.right.append("a")
        channel.keeps.append((1, 1, 1))
        self.assertEqual(pieces_of(channel), [(None, 1, 1, 1), ("a", 0, 3, 1)])


class CommonOfTest(unittest.TestCase):
    def check_common(self, one, other, due):
        one_piece = ("a", one[0], one[1], 1)
        other_piece = ("b", other[0], other[1], 2)
        self.assertEqual(common_of(one_piece, other_piece), due)
        self.assertEqual(common_of(other_piece, one_piece), due)

    def test_one_column_alone(self):
        self.check_common((0, 3), (3, 5), 3)
        self.check_common((2, 2), (2, 2), 2)
        self.check_common((2, 2), (0, 4), 2)

    def test_several_columns(self):
        self.check_common((0, 4), (2, 6), 2)

    def test_one_within_the_other(self):
        self.check_common((0, 9), (3, 5), 3)
        self.check_common((0, 9), (0, 5), 0)
        self.check_common((0, 9), (5, 9), 5)

    def test_the_same(self):
        self.check_common((1, 4), (1, 4), 1)
        piece = ("a", 1, 4, 1)
        self.assertEqual(common_of(piece, piece), 1)

    def test_none_common(self):
        self.check_common((0, 3), (4, 6), None)
        self.check_common((0, 0), (1, 1), None)
        self.check_common((0, 1), (30, 40), None)

    def test_the_edges(self):
        self.check_common((-1, 40), (-1, 40), -1)
        self.check_common((-1, 3), (-1, 0), -1)
        self.check_common((-1, -1), (-1, 5), -1)
        self.check_common((-1, 0), (0, 40), 0)
        self.check_common((-1, 40), (40, 40), 40)
        self.check_common((-1, 39), (40, 40), None)
        self.check_common((-1, -1), (0, 40), None)

    def test_column_nought_is_told_as_a_number(self):
        self.assertIs(type(common_of(("a", 0, 1, 1), ("b", 0, 2, 1))), int)

    def test_of_one_net_and_of_keeps(self):
        self.assertEqual(common_of(("a", 0, 3, 1), ("a", 3, 5, 1)), 3)
        self.assertEqual(common_of((None, 0, 3, 1), ("a", 2, 5, 3)), 2)
        self.assertEqual(common_of((None, 0, 3, 1), (None, 1, 1, 1)), 1)

    def test_against_the_columns_of_both(self):
        bounds = [(first, last) for first in range(-1, 5) for last in range(first, 5)]
        for one, other in itertools.product(bounds, bounds):
            both = set(range(one[0], one[1] + 1)) & set(range(other[0], other[1] + 1))
            self.check_common(one, other, min(both, default=None))


class PiecesAtTest(unittest.TestCase):
    PIECES = [
        ("b", 3, 6, 1), (None, 2, 4, 1), ("a", 4, 6, 2), ("a", -1, 2, 2), ("b", 0, 3, 1), (None, 4, 40, 3),
        ("a", 2, 4, 2), ("a", 3, 3, 1), ("c", -1, 40, 1),
    ]

    def test_several_of_one_name(self):
        self.assertEqual(pieces_at(self.PIECES, "a", 2), [3, 6])
        self.assertEqual(pieces_at(self.PIECES, "a", 3), [6, 7])
        self.assertEqual(pieces_at(self.PIECES, "a", 4), [2, 6])
        self.assertEqual(pieces_at(self.PIECES, "b", 3), [0, 4])

    def test_one(self):
        self.assertEqual(pieces_at(self.PIECES, "a", 0), [3])
        self.assertEqual(pieces_at(self.PIECES, "a", 5), [2])
        self.assertEqual(pieces_at(self.PIECES, "b", 1), [4])

    def test_at_the_two_ends(self):
        self.assertEqual(pieces_at(self.PIECES, "a", -1), [3])
        self.assertEqual(pieces_at(self.PIECES, "a", 6), [2])
        self.assertEqual(pieces_at(self.PIECES, "c", -1), [8])
        self.assertEqual(pieces_at(self.PIECES, "c", 40), [8])
        self.assertEqual(pieces_at(self.PIECES, "b", 0), [4])
        self.assertEqual(pieces_at(self.PIECES, "b", 6), [0])

    def test_outside_of_all(self):
        self.assertEqual(pieces_at(self.PIECES, "a", 7), [])
        self.assertEqual(pieces_at(self.PIECES, "b", -1), [])
        self.assertEqual(pieces_at(self.PIECES, "c", 41), [])
        self.assertEqual(pieces_at(self.PIECES, "c", -2), [])

    def test_a_name_of_no_piece(self):
        self.assertEqual(pieces_at(self.PIECES, "x", 3), [])
        self.assertEqual(pieces_at(self.PIECES, "aa", 3), [])

    def test_the_keeps(self):
        self.assertEqual(pieces_at(self.PIECES, None, 1), [])
        self.assertEqual(pieces_at(self.PIECES, None, 3), [1])
        self.assertEqual(pieces_at(self.PIECES, None, 4), [1, 5])
        self.assertEqual(pieces_at(self.PIECES, None, 40), [5])

    def test_no_pieces(self):
        self.assertEqual(pieces_at([], "a", 0), [])
        self.assertEqual(pieces_at([], None, 0), [])

    def test_in_any_order(self):
        for pieces in itertools.permutations(self.PIECES[2:8]):
            for name, column in itertools.product(["a", "b", None], range(-2, 8)):
                due = []
                for number, (owner, first, last, width) in enumerate(pieces):
                    if owner == name and column in range(first, last + 1):
                        due.append(number)
                self.assertEqual(pieces_at(list(pieces), name, column), due)

    def test_a_hundred_and_twenty_alike(self):
        self.assertEqual(pieces_at([("a", 0, 1, 1)] * 120, "a", 1), list(range(120)))

    def test_what_is_handed_in_stays_and_what_is_told_is_the_askers(self):
        pieces = list(self.PIECES)
        pieces_at(pieces, "a", 2).append(99)
        pieces_at(pieces, "x", 2).append(99)
        common_of(pieces[0], pieces[1])
        self.assertEqual(pieces, self.PIECES)
        self.assertEqual(pieces_at(pieces, "a", 2), [3, 6])
        self.assertEqual(pieces_at(pieces, "x", 2), [])


if __name__ == "__main__":
    unittest.main()
