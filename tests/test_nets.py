import unittest

from making import made
from wirechannel.nets import ends_of, nets_of, stretch_of, width_of


def ordinary():
    return made(
        ["b", "a", None, "b", "up"],
        [None, "a", "c", "c", "b"],
        left=["c", "lr"],
        right=["b", "lr"],
        wide=[("b", 3), ("ghost", 2), ("lr", 2)],
        bends=[(2, "b"), (3, "spook")],
        keeps=[(0, 2, 1)],
    )


# Lone nets, a bend at no place of its net, a keep beyond the channel: all of it refused by the check.
def refused():
    return made(
        ["a", None, "z"], ["b", "b", None], right=["q"],
        wide=[("none", 3)], bends=[(70, "b")], keeps=[(9, 3, 99)],
    )


class EndsTest(unittest.TestCase):
    def test_pins_by_rising_columns(self):
        self.assertEqual(ends_of(ordinary(), "b"), [("top", 0), ("top", 3), ("bottom", 4), ("right",)])

    def test_open_to_the_left(self):
        self.assertEqual(ends_of(ordinary(), "c"), [("left",), ("bottom", 2), ("bottom", 3)])

    def test_open_to_both_sides_without_pins(self):
        self.assertEqual(ends_of(ordinary(), "lr"), [("left",), ("right",)])

    def test_open_to_both_sides_with_pins(self):
        channel = made(["a", "b"], ["b", "a"], left=["a"], right=["a", "b"])
        self.assertEqual(ends_of(channel, "a"), [("left",), ("top", 0), ("bottom", 1), ("right",)])
        self.assertEqual(ends_of(channel, "b"), [("bottom", 0), ("top", 1), ("right",)])

    def test_the_top_pin_is_ahead_of_the_bottom_pin(self):
        self.assertEqual(ends_of(ordinary(), "a"), [("top", 1), ("bottom", 1)])

    def test_names_without_an_end(self):
        for name in ("x", "ghost", "spook", "left", "top"):
            self.assertEqual(ends_of(ordinary(), name), [])

    def test_one_column(self):
        self.assertEqual(ends_of(made(["a"], ["a"]), "a"), [("top", 0), ("bottom", 0)])

    def test_the_last_of_forty_columns(self):
        channel = made([None] * 39 + ["a"], ["a"] + [None] * 39)
        self.assertEqual(ends_of(channel, "a"), [("bottom", 0), ("top", 39)])

    def test_channels_that_the_check_refuses(self):
        self.assertEqual(ends_of(refused(), "a"), [("top", 0)])
        self.assertEqual(ends_of(refused(), "b"), [("bottom", 0), ("bottom", 1)])
        self.assertEqual(ends_of(refused(), "q"), [("right",)])
        self.assertEqual(ends_of(refused(), "none"), [])


class NetsTest(unittest.TestCase):
    def test_rising_and_each_once(self):
        self.assertEqual(nets_of(ordinary()), ["a", "b", "c", "lr", "up"])

    def test_by_the_order_of_names(self):
        channel = made(["b", "ab", "a"], ["zz", "aa", "z"], left=["m"], right=["k", "m"])
        self.assertEqual(nets_of(channel), ["a", "aa", "ab", "b", "k", "m", "z", "zz"])

    def test_nets_that_are_open_to_one_side_alone(self):
        self.assertEqual(nets_of(made([None], [None], left=["b", "c"], right=["a", "d"])), ["a", "b", "c", "d"])
        self.assertEqual(nets_of(made([None], [None], left=["a"])), ["a"])
        self.assertEqual(nets_of(made([None], [None], right=["a"])), ["a"])

    def test_names_in_wide_or_bends_alone_are_no_nets(self):
        channel = made([None], [None], wide=[("a", 2)], bends=[(0, "b")])
        self.assertEqual(nets_of(channel), [])

    def test_channels_that_the_check_refuses(self):
        self.assertEqual(nets_of(refused()), ["a", "b", "q", "z"])


class WidthTest(unittest.TestCase):
    def test_told_by_wide(self):
        self.assertEqual(width_of(ordinary(), "b"), 3)
        self.assertEqual(width_of(ordinary(), "lr"), 2)

    def test_one_for_all_others(self):
        for name in ("a", "c", "x", "spook"):
            self.assertEqual(width_of(ordinary(), name), 1)

    def test_told_by_wide_of_a_name_without_an_end(self):
        self.assertEqual(width_of(ordinary(), "ghost"), 2)
        self.assertEqual(width_of(refused(), "none"), 3)


class StretchTest(unittest.TestCase):
    def test_between_pins(self):
        channel = made(["a", None, "b", "a"], [None, "b", "a", None])
        self.assertEqual(stretch_of(channel, "a"), (0, 3))
        self.assertEqual(stretch_of(channel, "b"), (1, 2))
        self.assertIs(type(stretch_of(channel, "a")), tuple)

    def test_open_to_the_left(self):
        self.assertEqual(stretch_of(ordinary(), "c"), (-1, 3))
        self.assertEqual(stretch_of(made(["a"], [None], left=["a"]), "a"), (-1, 0))

    def test_open_to_the_right(self):
        self.assertEqual(stretch_of(ordinary(), "b"), (0, 5))
        self.assertEqual(stretch_of(made(["a"], [None], right=["a"]), "a"), (0, 1))

    def test_open_to_both(self):
        self.assertEqual(stretch_of(ordinary(), "lr"), (-1, 5))
        self.assertEqual(stretch_of(made([None] * 40, [None] * 40, left=["a"], right=["a"]), "a"), (-1, 40))

    def test_none_where_the_pins_face_one_another(self):
        self.assertIsNone(stretch_of(ordinary(), "a"))
        self.assertIsNone(stretch_of(made(["a"], ["a"]), "a"))

    def test_none_where_there_is_one_end(self):
        self.assertIsNone(stretch_of(ordinary(), "up"))
        self.assertIsNone(stretch_of(refused(), "q"))
        self.assertIsNone(stretch_of(made([None], [None], left=["a"]), "a"))

    def test_none_where_there_is_no_end(self):
        for name in ("x", "ghost", "spook"):
            self.assertIsNone(stretch_of(ordinary(), name))

    def test_channels_that_the_check_refuses(self):
        self.assertEqual(stretch_of(refused(), "b"), (0, 1))


class OwnershipTest(unittest.TestCase):
    def test_what_is_handed_in_stays(self):
        for make in (ordinary, refused):
            channel = make()
            for name in ("a", "b", "lr", "q", "x"):
                ends_of(channel, name)
                width_of(channel, name)
                stretch_of(channel, name)
            nets_of(channel)
            self.assertEqual(vars(channel), vars(make()))

    def test_changing_a_told_list_changes_no_later_answer(self):
        channel = ordinary()
        ends_of(channel, "b").clear()
        ends_of(channel, "x").append(("left",))
        nets_of(channel).clear()
        self.assertEqual(vars(channel), vars(ordinary()))
        self.assertEqual(ends_of(channel, "b"), ends_of(ordinary(), "b"))
        self.assertEqual(ends_of(channel, "x"), [])
        self.assertEqual(nets_of(channel), nets_of(ordinary()))


if __name__ == "__main__":
    unittest.main()
