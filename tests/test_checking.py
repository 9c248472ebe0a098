import itertools
import unittest

from making import good_channels, made
from wirechannel.checking import checked_channel
from wirechannel.errors import BadBend, BadKeep, Lone, NoNet, WireError

HUGE = 10 ** 9000


# The net a lies from column 1 to column 5; column 3 has the pins that are told, each net of them with a second end.
def with_pins(upper, lower, bends=()):
    top = [None, "a", None, upper, None, None, "b"]
    bottom = [None, None, None, lower, None, "a", "c"]
    return made(top, bottom, left=["b", "c"], bends=bends)


def with_keeps(keeps):
    return made(["a", None, None, None, "a"], [None] * 5, keeps=keeps)


class CheckedCase(unittest.TestCase):
    def check_good(self, channel):
        self.assertIs(checked_channel(channel), True)

    def check_refused(self, channel, refusal, **fields):
        with self.assertRaises(WireError) as caught:
            checked_channel(channel)
        self.assertIs(type(caught.exception), refusal)
        self.assertEqual(vars(caught.exception), fields)


class GoodTest(CheckedCase):
    def test_no_net_at_all(self):
        self.check_good(made([None], [None]))
        self.check_good(made([None] * 40, [None] * 40))
        self.check_good(made([None, None], [None, None], keeps=[(0, 1, 3)]))

    def test_nets_of_two_ends(self):
        self.check_good(made(["a"], ["a"]))
        self.check_good(made(["a", "a"], [None, None]))
        self.check_good(made([None, None], ["a", "a"]))
        self.check_good(made(["a"], [None], left=["a"]))
        self.check_good(made([None], ["a"], right=["a"]))
        self.check_good(made([None], [None], left=["a"], right=["a"]))

    def test_all_seven_lists(self):
        self.check_good(made(
            ["a", "b", None, "c", "a"], ["b", None, "c", "a", None], left=["c", "d"], right=["a", "d"],
            wide=[("a", 2), ("d", 3)], bends=[(3, "a")], keeps=[(0, 4, 1), (2, 2, 3)],
        ))

    def test_many(self):
        for channel in good_channels(300):
            with self.subTest(vars(channel)):
                self.check_good(channel)

    def test_nothing_is_refused_for_a_bound_that_is_passed(self):
        self.check_good(made([None] * 44, [None] * 44, keeps=[(0, 43, 3)] * 9))
        names = ["n" + letter for letter in "abcdefghijklmnopqrstuvwxyz"]
        self.check_good(made(names, names))


class LoneTest(CheckedCase):
    def test_a_pin_above(self):
        self.check_refused(made(["a", "b"], [None, "b"]), Lone, word="a")

    def test_a_pin_below(self):
        self.check_refused(made(["b", "b"], [None, "a"]), Lone, word="a")

    def test_open_to_the_left_alone(self):
        self.check_refused(made(["b"], ["b"], left=["a"]), Lone, word="a")

    def test_open_to_the_right_alone(self):
        self.check_refused(made(["b"], ["b"], right=["a"]), Lone, word="a")

    def test_the_first_and_the_last_column(self):
        self.check_refused(made(["a"] + [None] * 39, [None] * 40), Lone, word="a")
        self.check_refused(made([None] * 40, [None] * 39 + ["a"]), Lone, word="a")

    def test_of_two_the_lesser(self):
        for lesser, greater in [("a", "b"), ("a", "aa"), ("aa", "ab"), ("ab", "b"), ("zz", "zzz")]:
            for names in ([lesser, greater], [greater, lesser]):
                with self.subTest(names):
                    self.check_refused(made(names, [None, None]), Lone, word=lesser)
                    self.check_refused(made([None, None], names), Lone, word=lesser)
                    self.check_refused(made(names[:1], names[1:]), Lone, word=lesser)
                    self.check_refused(made([None], [None], left=names[:1], right=names[1:]), Lone, word=lesser)
                    self.check_refused(made(names[:1], [None], left=names[1:]), Lone, word=lesser)
                    self.check_refused(made([None], names[:1], right=names[1:]), Lone, word=lesser)

    def test_the_lesser_of_the_lone_ones_not_of_all(self):
        self.check_refused(made(["a", "c", "b"], ["a", None, None]), Lone, word="b")

    def test_wide_and_bends_are_no_ends(self):
        channel = made(["a", None, None], [None] * 3, wide=[("a", 2)], bends=[(1, "a")])
        self.check_refused(channel, Lone, word="a")


class NoNetTest(CheckedCase):
    def test_in_wide(self):
        self.check_refused(made(["a"], ["a"], wide=[("x", 2)]), NoNet, word="x")
        self.check_refused(made(["a"], ["a"], wide=[("a", 2), ("x", 3)]), NoNet, word="x")
        self.check_refused(made([None], [None], wide=[("x", 2)]), NoNet, word="x")

    def test_in_bends(self):
        self.check_refused(made(["a", None, "a"], [None] * 3, bends=[(1, "x")]), NoNet, word="x")
        self.check_refused(with_pins(None, None, [(2, "a"), (3, "x"), (4, "a")]), NoNet, word="x")

    def test_wide_goes_first(self):
        for word, other in [("x", "y"), ("y", "x")]:
            channel = made(["a", None, "a"], [None] * 3, wide=[(word, 2)], bends=[(1, other)])
            self.check_refused(channel, NoNet, word=word)

    def test_the_same_one_in_both(self):
        channel = made(["a", None, "a"], [None] * 3, wide=[("x", 2)], bends=[(1, "x")])
        self.check_refused(channel, NoNet, word="x")

    def test_of_two_in_wide_the_first(self):
        self.check_refused(made(["m"], ["m"], wide=[("a", 2), ("m", 2), ("x", 3)]), NoNet, word="a")
        self.check_refused(made(["a"], ["a"], wide=[("a", 2), ("x", 2), ("y", 3)]), NoNet, word="x")

    def test_of_two_in_bends_the_first(self):
        for names in itertools.permutations(["a", "x", "y"]):
            channel = with_pins(None, None, list(zip([2, 3, 4], names)))
            first = [name for name in names if name != "a"][0]
            self.check_refused(channel, NoNet, word=first)

    def test_nets_without_pins_or_without_a_stretch_have_ends(self):
        self.check_good(made(["a"], ["a"], wide=[("a", 2)]))
        self.check_good(made([None], [None], left=["a"], right=["a"], wide=[("a", 3)], bends=[(0, "a")]))


class BadBendTest(CheckedCase):
    def test_within_the_stretch(self):
        for columns in ([2], [3], [4], [2, 3, 4]):
            self.check_good(with_pins(None, None, [(column, "a") for column in columns]))

    def test_at_the_first_and_the_last_column_and_outside(self):
        for column in (0, 1, 5, 6):
            self.check_refused(with_pins(None, None, [(column, "a")]), BadBend, column=column)

    def test_outside_in_columns_without_pins(self):
        for column in (0, 4):
            channel = made([None, "a", None, "a", None], [None] * 5, bends=[(column, "a")])
            self.check_refused(channel, BadBend, column=column)

    def test_beyond_the_columns(self):
        for column in (7, 8, 39, 40, 41, 99, HUGE):
            self.check_refused(with_pins(None, None, [(column, "a")]), BadBend, column=column)
            channel = made([None] * 7, [None] * 7, left=["a"], right=["a"], bends=[(column, "a")])
            self.check_refused(channel, BadBend, column=column)

    def test_open_to_the_left_or_right(self):
        for column in (0, 1, 2):
            bends = [(column, "a")]
            self.check_good(made([None] * 3, [None] * 3, left=["a"], right=["a"], bends=bends))
            self.check_good(made([None] * 3 + ["a"], [None] * 4, left=["a"], bends=bends))
            self.check_good(made(["a"] + [None] * 3, [None] * 4, right=["a"], bends=[(column + 1, "a")]))

    def test_a_net_without_a_stretch(self):
        for column in (0, 1, 2):
            channel = made([None, "a", None], [None, "a", None], bends=[(column, "a")])
            self.check_refused(channel, BadBend, column=column)

    def test_columns_with_pins_of_other_nets_alone(self):
        for upper, lower in [("b", None), (None, "b"), ("b", "c"), ("c", "b"), ("b", "b")]:
            with self.subTest(upper=upper, lower=lower):
                self.check_refused(with_pins(upper, lower, [(3, "a")]), BadBend, column=3)

    def test_columns_with_a_pin_of_its_own_net(self):
        for upper, lower in [("a", None), (None, "a"), ("a", "b"), ("b", "a"), ("a", "a")]:
            with self.subTest(upper=upper, lower=lower):
                self.check_good(with_pins(upper, lower, [(3, "a")]))

    def test_of_two_the_first(self):
        self.check_refused(with_pins("b", None, [(1, "a"), (3, "a")]), BadBend, column=1)
        self.check_refused(with_pins("b", None, [(2, "a"), (3, "a"), (5, "a")]), BadBend, column=3)
        self.check_refused(with_pins(None, None, [(3, "a"), (5, "a"), (70, "a")]), BadBend, column=5)

    def test_the_stretch_of_its_own_net_counts(self):
        top = ["a", None, "a", "b", None, "b"]
        self.check_good(made(top, [None] * 6, bends=[(1, "a"), (4, "b")]))
        self.check_refused(made(top, [None] * 6, bends=[(1, "b"), (4, "a")]), BadBend, column=1)
        self.check_refused(made(top, [None] * 6, bends=[(1, "a"), (4, "a")]), BadBend, column=4)


class BadKeepTest(CheckedCase):
    def test_just_within(self):
        for keep in [(0, 0, 1), (0, 4, 1), (4, 4, 2), (0, 4, 3), (2, 3, 3)]:
            self.check_good(with_keeps([keep]))
        self.check_good(with_keeps([(0, 4, 3)] * 8))
        self.check_good(made([None] * 40, [None] * 40, keeps=[(0, 39, 1), (39, 39, 3)]))

    def test_first_column_behind_the_last(self):
        for keep in [(1, 0, 1), (4, 3, 2), (4, 0, 3), (99, 0, 1)]:
            self.check_refused(with_keeps([keep]), BadKeep, place=0)

    def test_last_column_beyond_the_columns(self):
        for keep in [(0, 5, 1), (5, 5, 1), (0, 6, 2), (4, 99, 3), (99, 99, 1)]:
            self.check_refused(with_keeps([keep]), BadKeep, place=0)

    def test_tracks_other_than_one_to_three(self):
        for tracks in (0, 4, 5, 10, 99, HUGE):
            self.check_refused(with_keeps([(0, 4, tracks)]), BadKeep, place=0)

    def test_the_number_of_the_keep(self):
        for bad in [(3, 2, 1), (0, 5, 1), (0, 4, 0), (0, 4, 4)]:
            for place in range(8):
                keeps = [(0, 4, 3)] * 8
                keeps[place] = bad
                self.check_refused(with_keeps(keeps), BadKeep, place=place)

    def test_of_two_the_first(self):
        bad = [(3, 2, 1), (0, 5, 1), (0, 4, 0), (0, 4, 4)]
        for one, other in itertools.product(bad, bad):
            self.check_refused(with_keeps([one, other]), BadKeep, place=0)
            self.check_refused(with_keeps([(0, 0, 1), one, (1, 1, 1), other]), BadKeep, place=1)


class OrderTest(CheckedCase):
    # A good channel with such of five faults as are told.
    def faulty(self, faults):
        bends = [(0, "a")] if "bend" in faults else []
        bends.append((2, "c" if "bent name" in faults else "a"))
        return made(
            ["a", None, None, "z" if "lone" in faults else None, "a"], [None] * 5,
            wide=[("x", 2)] if "wide name" in faults else [("a", 2)],
            bends=bends,
            keeps=[(0, 4, 1), (0, 4, 4 if "keep" in faults else 3)],
        )

    def test_of_all_faults_at_once_the_first_by_the_order(self):
        order = {
            "lone": (Lone, {"word": "z"}),
            "wide name": (NoNet, {"word": "x"}),
            "bent name": (NoNet, {"word": "c"}),
            "bend": (BadBend, {"column": 0}),
            "keep": (BadKeep, {"place": 1}),
        }
        self.check_good(self.faulty([]))
        for count in range(1, 6):
            for faults in itertools.combinations(order, count):
                with self.subTest(faults):
                    refusal, fields = order[faults[0]]
                    self.check_refused(self.faulty(faults), refusal, **fields)

    def test_each_refusal_goes_through_all_of_its_list_ahead_of_the_next(self):
        self.check_refused(made(["a", "z", "a"], [None] * 3, wide=[("b", 2)]), Lone, word="z")
        channel = made(["a", None, None, "a"], [None] * 4, bends=[(0, "a"), (1, "a"), (3, "y")], keeps=[(9, 0, 9)])
        self.check_refused(channel, NoNet, word="y")
        channel = made(["a", None, None, "a"], [None] * 4, bends=[(1, "a"), (3, "a")], keeps=[(9, 0, 9)])
        self.check_refused(channel, BadBend, column=3)


class OwnershipTest(CheckedCase):
    def test_what_is_handed_in_stays(self):
        for one, other in zip(good_channels(50), good_channels(50)):
            checked_channel(one)
            self.assertEqual(vars(one), vars(other))

    def test_what_is_refused_stays(self):
        makers = [
            lambda: made(["b", "a"], [None, "b"], wide=[("x", 2)], bends=[(9, "a")], keeps=[(9, 0, 0)]),
            lambda: made(["b", "a"], ["a", "b"], wide=[("x", 2)], bends=[(9, "a")], keeps=[(9, 0, 0)]),
            lambda: made(["b", "a"], ["a", "b"], wide=[("a", 2)], bends=[(9, "a")], keeps=[(9, 0, 0)]),
            lambda: made(["b", "a"], ["a", "b"], wide=[("a", 2)], keeps=[(1, 1, 1), (9, 0, 0)]),
        ]
        for make, refusal in zip(makers, [Lone, NoNet, BadBend, BadKeep]):
            channel = make()
            for turn in range(2):
                with self.assertRaises(refusal):
                    checked_channel(channel)
                self.assertEqual(vars(channel), vars(make()))

    def test_a_channel_that_is_mended_is_good(self):
        channel = made(["a", "b", "a"], [None] * 3)
        self.check_refused(channel, Lone, word="b")
        channel.bottom[0] = "b"
        self.check_good(channel)
        channel.keeps.append((0, 3, 1))
        self.check_refused(channel, BadKeep, place=0)


if __name__ == "__main__":
    unittest.main()
