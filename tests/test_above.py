import unittest

from making import good_channels, made
from wirechannel.above import above_of
from wirechannel.checking import checked_channel
from wirechannel.pieces import pieces_of


def ordinary():
    return made(
        ["a", "b", None, "c", "a", "d"],
        ["b", "a", "c", None, "b", "d"],
        bends=[(1, "a")], keeps=[(0, 2, 1), (3, 5, 2)],
    )


# The triples by their meaning, each asked by itself.
def due_above(channel, pieces):
    due = set()
    for p, (upper, first, last, width) in enumerate(pieces):
        for q, (lower, low, high, other_width) in enumerate(pieces):
            both = sorted(set(range(first, last + 1)) & set(range(low, high + 1)))
            if upper is None and lower is not None and both:
                due.add((p, q, both[0]))
            for column in both:
                inside = 0 <= column < len(channel.top)
                if upper and lower and upper != lower and inside:
                    if (channel.top[column], channel.bottom[column]) == (upper, lower):
                        due.add((p, q, column))
    return sorted(due)


class AboveCase(unittest.TestCase):
    def check_above(self, channel, bent, due):
        self.assertIs(checked_channel(channel), True)
        self.assertEqual(above_of(channel, pieces_of(channel, bent)), due)


class PinsTest(AboveCase):
    def test_the_top_pins_piece_lies_above_the_bottom_pins(self):
        self.check_above(made(["a", None, "b"], ["b", None, "a"]), False, [(0, 1, 0), (1, 0, 2)])
        self.check_above(made(["b", "a", None], ["a", None, "b"]), False, [(1, 0, 0)])
        self.check_above(made(["a", "b", None], ["b", None, "a"]), False, [(0, 1, 0)])

    def test_the_first_and_the_last_column(self):
        blank = [None] * 38
        channel = made(["a"] + blank + ["b"], ["b"] + blank + ["a"])
        self.check_above(channel, False, [(0, 1, 0), (1, 0, 39)])
        channel = made(["a"] + blank + ["a"], ["b"] + blank + ["b"], left=["a"], right=["b"])
        self.check_above(channel, False, [(0, 1, 0), (0, 1, 39)])

    def test_one_pair_by_several_columns(self):
        channel = made(["a", "a", "a"], ["b", "b", "b"])
        self.check_above(channel, False, [(0, 1, 0), (0, 1, 1), (0, 1, 2)])

    def test_a_column_with_one_pin_gives_none(self):
        self.check_above(made(["a", None, "a", None], [None, "b", None, "b"]), False, [])

    def test_a_column_with_one_pin_gives_none_where_there_are_keeps(self):
        channel = made(["a", None, None, "a", None], [None, "b", None, None, "b"], keeps=[(2, 2, 1)])
        self.check_above(channel, False, [(0, 1, 2), (0, 2, 2)])

    def test_a_column_with_two_pins_of_one_net_gives_none(self):
        self.check_above(made(["a", "a"], ["a", None]), False, [])
        self.check_above(made(["a", "a", "a"], ["a", "a", None], bends=[(1, "a")]), True, [])

    def test_nets_without_a_stretch_give_none(self):
        self.check_above(made(["a", "b"], ["a", "b"]), False, [])
        self.check_above(made(["b", "a", "b"], ["c", "a", "c"]), False, [(0, 1, 0), (0, 1, 2)])

    def test_open_nets(self):
        channel = made(["a"], ["b"], left=["a"], right=["b"])
        self.check_above(channel, False, [(0, 1, 0)])
        channel = made(["b"], ["a"], left=["a"], right=["b"])
        self.check_above(channel, False, [(1, 0, 0)])

    def test_no_nets(self):
        self.check_above(made([None], [None]), False, [])
        self.check_above(made([None], [None]), True, [])


class BentTest(AboveCase):
    def test_two_pieces_that_share_the_column_give_a_triple_each(self):
        upper = made(["a", "a", "a", None], [None, "b", None, "b"], bends=[(1, "a")])
        self.check_above(upper, False, [(0, 1, 1)])
        self.check_above(upper, True, [(0, 2, 1), (1, 2, 1)])
        lower = made([None, "b", None, "b"], ["a", "a", "a", None], bends=[(1, "a")])
        self.check_above(lower, False, [(1, 0, 1)])
        self.check_above(lower, True, [(2, 0, 1), (2, 1, 1)])

    def test_only_the_pieces_that_contain_the_column(self):
        channel = made(["a", None, None, "b"], ["b", None, None, "a"], bends=[(1, "a"), (2, "a")])
        self.check_above(channel, False, [(0, 1, 0), (1, 0, 3)])
        self.check_above(channel, True, [(0, 3, 0), (3, 2, 3)])

    def test_a_bend_takes_a_ring_apart(self):
        channel = made(["a", None, "b"], ["b", None, "a"], bends=[(1, "b")])
        self.check_above(channel, False, [(0, 1, 0), (1, 0, 2)])
        self.check_above(channel, True, [(0, 1, 0), (2, 0, 2)])

    def test_both_kinds_of_pieces_of_one_channel(self):
        self.check_above(ordinary(), False, [
            (0, 2, 0), (0, 3, 0), (0, 4, 2), (1, 2, 3), (1, 3, 3), (1, 4, 3), (2, 3, 0), (2, 3, 4), (3, 2, 1),
        ])
        self.check_above(ordinary(), True, [
            (0, 2, 0), (0, 3, 1), (0, 4, 0), (0, 5, 2), (1, 3, 3), (1, 4, 3), (1, 5, 3),
            (2, 4, 0), (3, 4, 4), (4, 2, 1), (4, 3, 1),
        ])


class KeepsTest(AboveCase):
    def test_above_each_piece_with_a_common_column_the_least_one(self):
        for keep, column in [((0, 5, 1), 2), ((0, 2, 2), 2), ((3, 3, 3), 3), ((4, 5, 1), 4), ((2, 2, 1), 2)]:
            channel = made([None, None, "a", None, "a", None], [None] * 6, keeps=[keep])
            self.check_above(channel, False, [(0, 1, column)])

    def test_none_where_no_column_is_common(self):
        for keep in [(0, 1, 1), (5, 5, 3), (1, 1, 2)]:
            self.check_above(made([None, None, "a", None, "a", None], [None] * 6, keeps=[keep]), False, [])

    def test_pieces_of_open_nets(self):
        channel = made([None] * 3, [None] * 3, left=["a"], right=["a"], keeps=[(0, 2, 1), (2, 2, 1)])
        self.check_above(channel, False, [(0, 2, 0), (1, 2, 2)])

    def test_each_piece_of_a_bent_net(self):
        channel = made(["a", None, None, "a"], [None] * 4, bends=[(1, "a"), (2, "a")], keeps=[(0, 1, 1), (2, 3, 1)])
        self.check_above(channel, False, [(0, 2, 0), (1, 2, 2)])
        self.check_above(channel, True, [(0, 2, 0), (0, 3, 1), (1, 3, 2), (1, 4, 2)])

    def test_no_keep_above_a_keep(self):
        channel = made([None] * 3, [None] * 3, keeps=[(0, 2, 1), (1, 2, 2), (0, 2, 1)])
        self.check_above(channel, False, [])
        self.check_above(channel, True, [])

    def test_keeps_that_are_alike(self):
        channel = made(["a", "a"], [None, None], keeps=[(1, 1, 1), (1, 1, 1)])
        self.check_above(channel, False, [(0, 2, 1), (1, 2, 1)])


class ListTest(AboveCase):
    def test_tuples_in_a_list(self):
        for bent in (False, True):
            above = above_of(ordinary(), pieces_of(ordinary(), bent))
            self.assertIs(type(above), list)
            for triple in above:
                self.assertIs(type(triple), tuple)
                self.assertEqual([type(number) for number in triple], [int, int, int])

    def test_many_rising_and_without_doubles(self):
        for channel in good_channels(300):
            for bent in (False, True):
                with self.subTest(bent=bent, channel=vars(channel)):
                    pieces = pieces_of(channel, bent)
                    above = above_of(channel, pieces)
                    self.assertEqual(above, due_above(channel, pieces))
                    self.assertEqual(above, sorted(set(above)))

    def test_numbers_rise_as_numbers(self):
        names = [letter * 2 for letter in "abcdefghijklmn"]
        channel = made(names + [None], ["zz"] + [None] * 13 + ["zz"], right=names)
        pieces = pieces_of(channel)
        self.assertEqual(above_of(channel, pieces), [(0, 14, 0)])
        channel = made(names, ["zz"] * 14, right=names)
        pieces = pieces_of(channel)
        self.assertEqual(above_of(channel, pieces), [(number, 14, number) for number in range(14)])


class OwnershipTest(AboveCase):
    def test_what_is_handed_in_stays(self):
        for one, other in zip(good_channels(50), good_channels(50)):
            for bent in (False, True):
                pieces = pieces_of(one, bent)
                before = list(pieces)
                above_of(one, pieces)
                self.assertEqual(pieces, before)
                self.assertEqual(vars(one), vars(other))

    def test_changing_a_told_list_changes_no_later_answer(self):
        channel = ordinary()
        pieces = pieces_of(channel)
        due = above_of(channel, pieces)
        told = above_of(channel, pieces)
        told.reverse()
        told.append((9, 9, 9))
        self.assertEqual(above_of(channel, pieces), due)
        above_of(channel, pieces).clear()
        self.assertEqual(above_of(channel, pieces), due)

    def test_a_later_answer_fits_a_changed_channel(self):
        channel = made(["a", None, "b"], ["b", None, "a"])
        self.check_above(channel, False, [(0, 1, 0), (1, 0, 2)])
        channel.top[2] = "a"
        channel.bottom[2] = "b"
        self.check_above(channel, False, [(0, 1, 0), (0, 1, 2)])


if __name__ == "__main__":
    unittest.main()
