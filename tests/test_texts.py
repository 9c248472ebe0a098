import itertools
import unittest

from making import made
from wirechannel.channels import Channel
from wirechannel.errors import BadText
from wirechannel.texts import read_channel, written_channel

HEADS = ["top", "bottom", "left", "right", "wide", "bend", "keep"]
PLAIN = "top a .\nbottom . a\nleft\nright\n"
FULL = (
    "top a . b c\n"
    "bottom c a . b\n"
    "left d e\n"
    "right a d\n"
    "wide a 2\n"
    "wide d 3\n"
    "bend 1 a\n"
    "bend 2 c\n"
    "keep 0 3 1\n"
    "keep 1 2 2\n"
)


def names_of(count):
    letters = "abcdefghijklmnopqrstuvwxyz"
    return ["n" + letter for letter in letters[:count]]


def full():
    return made(
        ["a", None, "b", "c"], ["c", "a", None, "b"], ["d", "e"], ["a", "d"],
        [("a", 2), ("d", 3)], [(1, "a"), (2, "c")], [(0, 3, 1), (1, 2, 2)],
    )


# Channels as point 4 tells, just within its bounds, also such as point 6 refuses.
def many_channels():
    forty = [name for name in names_of(20) for twice in range(2)]
    return [
        full(),
        made(["a"], [None]),
        made([None], [None]),
        made(forty, list(reversed(forty))),
        made([None] * 40, [None] * 40, left=names_of(24)),
        made([None], ["a"], right=["a", "b"], wide=[("zzzzzz", 3)], bends=[(0, "q"), (9, "a"), (10, "a"), (99, "a")]),
        made(["a", "a"], [None, None], keeps=[(99, 0, 0), (0, 9, 10), (99, 99, 99)]),
        made(["a"], ["a"], keeps=[(0, 0, 1)] * 8),
        made(HEADS + ["next"], ["next"] + HEADS, left=sorted(HEADS + ["next"]), right=sorted(HEADS + ["next"]),
             wide=[(name, 2) for name in sorted(HEADS + ["next"])],
             bends=list(enumerate(HEADS + ["next"]))),
    ]


class WrittenTest(unittest.TestCase):
    def test_line_by_line(self):
        self.assertEqual(written_channel(full()), FULL)

    def test_empty_lists(self):
        self.assertEqual(written_channel(made(["a", None], [None, "a"])), PLAIN)

    def test_each_list_empty_by_itself(self):
        lines = FULL.splitlines()
        for field, head in [("left", "left"), ("right", "right"), ("wide", "wide"), ("bends", "bend"), ("keeps", "keep")]:
            with self.subTest(field):
                channel = full()
                setattr(channel, field, [])
                due = [line for line in lines if line.split()[0] != head]
                if head in ("left", "right"):
                    due.insert(HEADS.index(head), head)
                self.assertEqual(written_channel(channel), "\n".join(due) + "\n")

    def test_one_column(self):
        self.assertEqual(written_channel(made(["abcdef"], [None])), "top abcdef\nbottom .\nleft\nright\n")

    def test_forty_columns(self):
        channel = made(["a"] * 40, [None] * 39 + ["b"])
        due = "top" + " a" * 40 + "\nbottom" + " ." * 39 + " b\nleft\nright\n"
        self.assertEqual(written_channel(channel), due)

    def test_channels_that_the_check_refuses(self):
        channel = made(["a"], [None], wide=[("x", 3)], bends=[(0, "y"), (99, "a")], keeps=[(99, 0, 0), (10, 9, 50)])
        due = "top a\nbottom .\nleft\nright\nwide x 3\nbend 0 y\nbend 99 a\nkeep 99 0 0\nkeep 10 9 50\n"
        self.assertEqual(written_channel(channel), due)

    def test_keeps_in_their_own_order(self):
        channel = made(["a"], ["a"], keeps=[(2, 3, 1), (0, 1, 1), (2, 3, 1)])
        due = "top a\nbottom a\nleft\nright\nkeep 2 3 1\nkeep 0 1 1\nkeep 2 3 1\n"
        self.assertEqual(written_channel(channel), due)

    def test_columns_of_bends_have_no_bound(self):
        for column, figures in [
            (100, "100"), (999999, "999999"), (1000000, "1000000"), (1000001, "1000001"),
            (12000000345000, "12000000345000"), (10 ** 9000, "1" + "0" * 9000), (10 ** 9000 - 1, "9" * 9000),
        ]:
            with self.subTest(len(figures)):
                text = written_channel(made(["a"], ["a"], bends=[(column, "a")]))
                self.assertEqual(text, "top a\nbottom a\nleft\nright\nbend " + figures + " a\n")

    def test_the_lists_stay_as_they_were(self):
        for one, other in zip(many_channels(), many_channels()):
            written_channel(one)
            self.assertEqual(vars(one), vars(other))


class ReadTest(unittest.TestCase):
    def check_same(self, text, channel):
        self.assertEqual(vars(read_channel(text)), vars(channel))

    def test_the_lists_of_a_text(self):
        self.check_same(FULL, full())

    def test_what_was_written_is_read(self):
        for channel in many_channels():
            text = written_channel(channel)
            with self.subTest(text):
                self.check_same(text, channel)
                self.assertEqual(written_channel(read_channel(text)), text)

    def test_the_kinds_of_the_members(self):
        channel = read_channel(FULL)
        self.assertIs(type(channel), Channel)
        for members in vars(channel).values():
            self.assertIs(type(members), list)
        for pin in channel.top + channel.bottom:
            self.assertIn(type(pin), (str, type(None)))
        for told in channel.wide + channel.bends + channel.keeps:
            self.assertIs(type(told), tuple)
        for keep in channel.keeps:
            self.assertEqual([type(number) for number in keep], [int, int, int])
        self.assertEqual([type(member) for member in channel.wide[0]], [str, int])
        self.assertEqual([type(member) for member in channel.bends[0]], [int, str])

    def test_more_blanks_between_words_and_at_the_ends_of_lines(self):
        for channel in many_channels():
            lines = written_channel(channel).splitlines()
            self.check_same("\n".join([line.replace(" ", "   ") for line in lines]) + "\n", channel)
            self.check_same("\n".join(["  " + line for line in lines]) + "\n", channel)
            self.check_same("\n".join([line + "  " for line in lines]) + "\n", channel)

    def test_lines_of_blanks_in_all_places(self):
        for channel in many_channels():
            lines = written_channel(channel).splitlines()
            for blank in ("", " ", "    "):
                for place in range(len(lines) + 1):
                    self.check_same("\n".join(lines[:place] + [blank] + lines[place:]) + "\n", channel)
                self.check_same(blank + "\n" + ("\n" + blank + "\n").join(lines) + "\n" + blank, channel)

    def test_without_the_last_line_feed(self):
        for channel in many_channels():
            self.check_same(written_channel(channel)[:-1], channel)

    def test_changing_the_lists_told_changes_no_later_answer(self):
        for told in vars(read_channel(FULL)).values():
            told.clear()
        self.check_same(FULL, full())

    def test_keeps_may_be_alike_and_in_any_order(self):
        for keeps in itertools.permutations(["keep 3 1 2", "keep 0 0 0", "keep 3 1 2"]):
            channel = read_channel(PLAIN + "\n".join(keeps))
            due = [tuple(int(word) for word in keep.split()[1:]) for keep in keeps]
            self.assertEqual(channel.keeps, due)

    def test_just_within_the_columns(self):
        for count in (1, 2, 39, 40):
            channel = read_channel("top" + " a" * count + "\nbottom" + " ." * count + "\nleft\nright\n")
            self.assertEqual((channel.top, channel.bottom), (["a"] * count, [None] * count))

    def test_just_within_the_keeps(self):
        self.assertEqual(read_channel(PLAIN + "keep 0 1 1\n" * 8).keeps, [(0, 1, 1)] * 8)

    def test_just_within_the_numbers(self):
        for number in (0, 1, 9, 10, 99):
            channel = read_channel(PLAIN + f"bend {number} a\nkeep {number} {number} {number}\n")
            self.assertEqual(channel.bends, [(number, "a")])
            self.assertEqual(channel.keeps, [(number, number, number)])

    def test_just_within_the_names(self):
        for text in texts_with_names(24):
            read_channel(text)

    def test_widths_two_and_three(self):
        self.assertEqual(read_channel(PLAIN + "wide a 2\nwide b 3\n").wide, [("a", 2), ("b", 3)])

    def test_longest_and_shortest_names(self):
        channel = read_channel("top zzzzzz a\nbottom . .\nleft a zzzzzz\nright\n")
        self.assertEqual((channel.top, channel.left), (["zzzzzz", "a"], ["a", "zzzzzz"]))


# Texts with so many NAMEs, all of them in one kind of line, or some of them in each.
def texts_with_names(count):
    names = names_of(count)
    dots = " ".join(["."] * count)
    row = " ".join(names)
    wides = "".join([f"wide {name} 2\n" for name in names])
    bends = "".join([f"bend {place} {name}\n" for place, name in enumerate(names)])
    mixed = (
        " ".join(["top"] + names[:4] + names[:4]) + "\n" + " ".join(["bottom"] + names[4:8] + names[:4]) + "\n"
        + " ".join(["left"] + names[8:12]) + "\n" + " ".join(["right"] + names[10:16]) + "\n"
        + "".join([f"wide {name} 3\n" for name in names[14:20]])
        + "".join([f"bend {place} {name}\n" for place, name in enumerate(names[20:])])
    )
    return [
        f"top {row}\nbottom {dots}\nleft\nright\n",
        f"top {dots}\nbottom {row}\nleft\nright\n",
        f"top {row}\nbottom {row}\nleft {row}\nright {row}\n" + wides + bends,
        f"top .\nbottom .\nleft {row}\nright\n",
        f"top .\nbottom .\nleft\nright {row}\n",
        f"top .\nbottom .\nleft\nright\n{wides}",
        f"top .\nbottom .\nleft\nright\n{bends}",
        mixed,
    ]


class RefusedTest(unittest.TestCase):
    def check_refused(self, *texts):
        for text in texts:
            with self.subTest(text):
                with self.assertRaises(BadText):
                    read_channel(text)

    def test_no_line_at_all(self):
        self.check_refused("", " ", "\n", "  \n \n\n")

    def test_a_line_left_out(self):
        lines = FULL.splitlines()
        for place in range(4):
            self.check_refused("\n".join(lines[:place] + lines[place + 1:]))
            self.check_refused("\n".join(lines[:place]))

    def test_a_line_told_twice(self):
        lines = FULL.splitlines()
        for place, line in enumerate(lines[:8]):
            self.check_refused("\n".join(lines[:place] + [line] + lines[place:]))
            self.check_refused("\n".join(lines + [line]))

    def test_lines_in_another_order(self):
        lines = (PLAIN + "wide a 2\nbend 1 a\nkeep 0 1 1").splitlines()
        read_channel("\n".join(lines))
        for one, other in itertools.combinations(range(len(lines)), 2):
            changed = list(lines)
            changed[one] = lines[other]
            changed[other] = lines[one]
            self.check_refused("\n".join(changed))

    def test_wide_bend_and_keep_lines_mixed(self):
        self.check_refused(
            PLAIN + "wide a 2\nbend 1 a\nwide b 2\n",
            PLAIN + "bend 1 a\nkeep 0 1 1\nbend 2 a\n",
            PLAIN + "keep 0 1 1\nwide a 2\nkeep 0 1 1\n",
        )

    def test_another_line(self):
        lines = FULL.splitlines()
        for other in ("next", "a", ".", "bends 1 a", "keeps 0 1 1", "Top a . b c", "wide2 a 2", "7", "tops a", "#"):
            for place in range(len(lines) + 1):
                self.check_refused("\n".join(lines[:place] + [other] + lines[place:]))

    def test_two_channels(self):
        self.check_refused(PLAIN + PLAIN, PLAIN + "next\n" + PLAIN)

    def test_a_word_too_few(self):
        self.check_refused(*[PLAIN + line + "\n" for line in (
            "wide", "wide a", "wide 2", "bend", "bend 1", "bend a", "keep", "keep 1", "keep 0 1",
        )])

    def test_a_word_too_many(self):
        self.check_refused(*[PLAIN + line + "\n" for line in (
            "wide a 2 2", "wide a b 2", "bend 1 a a", "bend 1 2 a", "keep 0 1 1 1", "keep 0 1 1 a",
        )])

    def test_lines_joined_or_parted(self):
        self.check_refused(
            "top a .\nbottom . a\nleft right\n", "top a .\nbottom . a left\nright\n",
            "top a .\nbottom . a\nleft\nright\nwide a\n2\n", "top a\n.\nbottom . a\nleft\nright\n",
        )

    def test_top_and_bottom_with_other_counts(self):
        self.check_refused(
            "top a\nbottom a .\nleft\nright\n", "top a .\nbottom a\nleft\nright\n",
            "top\nbottom a\nleft\nright\n", "top a\nbottom\nleft\nright\n",
            "top" + " ." * 40 + "\nbottom" + " ." * 41 + "\nleft\nright\n",
            "top" + " ." * 41 + "\nbottom" + " ." * 40 + "\nleft\nright\n",
        )

    def test_no_columns(self):
        self.check_refused("top\nbottom\nleft\nright\n", "top\nbottom\nleft a\nright a\n")

    def test_forty_one_columns(self):
        self.check_refused("top" + " a" * 41 + "\nbottom" + " ." * 41 + "\nleft\nright\n")

    def test_a_word_that_is_no_name(self):
        for word in ("A", "aB", "abcdefg", "a1", "1", "a.", ".a", "..", "a-b", "a_b", "-", "_", "~", "a\tb"):
            self.check_refused(
                f"top {word} .\nbottom . a\nleft\nright\n", f"top a .\nbottom . {word}\nleft\nright\n",
                f"top a .\nbottom . a\nleft {word}\nright\n", f"top a .\nbottom . a\nleft\nright {word}\n",
                PLAIN + f"wide {word} 2\n", PLAIN + f"bend 1 {word}\n",
            )

    def test_a_point_where_only_a_name_is_due(self):
        self.check_refused(
            "top a .\nbottom . a\nleft .\nright\n", "top a .\nbottom . a\nleft\nright .\n",
            PLAIN + "wide . 2\n", PLAIN + "bend 1 .\n",
        )

    def test_numbers_in_another_form(self):
        for word in ("100", "000", "002", "00", "01", "02", "09", "+1", "-1", "-0", "+2", "1.", "a", ".", "2a",
                     "a2", "x", "1-", "0x", "1_", "1_0", "2.0", "--", "\u0662", "\u00b2"):
            self.check_refused(
                PLAIN + f"wide a {word}\n", PLAIN + f"bend {word} a\n", PLAIN + f"keep {word} 1 1\n",
                PLAIN + f"keep 0 {word} 1\n", PLAIN + f"keep 0 1 {word}\n",
            )

    def test_left_not_rising_or_with_one_twice(self):
        for names in ("b a", "a a", "a c b", "a b b", "b aa", "ab a", "a b a"):
            self.check_refused(f"top a .\nbottom . a\nleft {names}\nright\n")

    def test_right_not_rising_or_with_one_twice(self):
        for names in ("b a", "a a", "a c b", "a b b", "b aa", "ab a", "a b a"):
            self.check_refused(f"top a .\nbottom . a\nleft\nright {names}\n")

    def test_wide_not_rising_or_with_one_twice(self):
        self.check_refused(
            PLAIN + "wide b 2\nwide a 2\n", PLAIN + "wide a 2\nwide a 2\n", PLAIN + "wide a 2\nwide a 3\n",
            PLAIN + "wide a 2\nwide c 2\nwide b 3\n", PLAIN + "wide ab 2\nwide a 3\n",
        )

    def test_bends_not_rising_or_with_one_twice(self):
        self.check_refused(
            PLAIN + "bend 2 a\nbend 1 a\n", PLAIN + "bend 1 a\nbend 1 a\n", PLAIN + "bend 1 a\nbend 1 b\n",
            PLAIN + "bend 1 a\nbend 3 a\nbend 2 a\n", PLAIN + "bend 10 a\nbend 9 b\n",
        )

    def test_bends_rise_as_numbers(self):
        self.assertEqual(read_channel(PLAIN + "bend 9 b\nbend 10 a\n").bends, [(9, "b"), (10, "a")])

    def test_widths_other_than_two_and_three(self):
        for width in (0, 1, 4, 5, 9, 10, 22, 23, 99):
            self.check_refused(PLAIN + f"wide a {width}\n", PLAIN + f"wide a 2\nwide b {width}\nwide c 3\n")

    def test_nine_keeps(self):
        self.check_refused(PLAIN + "keep 0 1 1\n" * 9)

    def test_twenty_five_names(self):
        self.check_refused(*texts_with_names(25))


if __name__ == "__main__":
    unittest.main()
