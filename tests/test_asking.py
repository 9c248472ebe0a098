import inspect
import random
import unittest

from making import AskingCase, good_channels, tangled_channels
from wirechannel.above import above_of
from wirechannel.asking import planned, ringed, triple_line
from wirechannel.drawing import drawn
from wirechannel.errors import BadBend, BadKeep, BadPile, BadText, Lone, NoLayout, NoNet, WireError
from wirechannel.floors import floor_of
from wirechannel.layouts import laid, ring_of
from wirechannel.packing import bound_of, count_of, levels_of
from wirechannel.pieces import pieces_of
from wirechannel.piles import drawn_pile
from wirechannel.texts import read_channel, written_channel

EMPTY = "top .\nbottom .\nleft\nright\n"
STRAIGHT = "top b a b\nbottom c . c\nleft\nright a\n"
BENT = "top a . b\nbottom b . a\nleft\nright\nbend 1 a\n"
RINGED = "top a b\nbottom b a\nleft\nright\n"
LONE = "top a .\nbottom . .\nleft\nright\n"
NO_NET = "top . .\nbottom . .\nleft\nright\nwide a 2\n"
BAD_BEND = "top a a\nbottom . .\nleft\nright\nbend 1 a\n"
BAD_KEEP = "top . .\nbottom . .\nleft\nright\nkeep 1 2 1\n"
# Texts that are read, but that laid refuses, with the refusal's class and its fields.
REFUSED = [
    (LONE, Lone, {"word": "a"}),
    (NO_NET, NoNet, {"word": "a"}),
    (BAD_BEND, BadBend, {"column": 1}),
    (BAD_KEEP, BadKeep, {"place": 0}),
    (RINGED, NoLayout, {"pieces": [("a", 0, 1, 1), ("b", 0, 1, 1)]}),
]


class PlannedCase(AskingCase):
    def check_planned(self, text, lines):
        told = self.asked(planned, text)
        self.assertIs(type(told), str)
        self.assertEqual(told, "".join(line + "\n" for line in lines))


class PlannedTest(PlannedCase):
    def test_signatures(self):
        self.assertEqual(str(inspect.signature(planned)), "(text)")
        self.assertEqual(str(inspect.signature(ringed)), "(text)")

    def test_no_nets(self):
        self.check_planned(EMPTY, ["straight 0 bound 0 floor 0", "   "])

    def test_straight(self):
        self.check_planned(STRAIGHT, [
            "straight 3 bound 3 floor 3",
            " | | | ",
            " +-#-+ ",
            "   |   ",
            " +-#-+ ",
            " | | | ",
            " | +-#-",
            " |   | ",
        ])

    def test_bent(self):
        self.check_planned(BENT, [
            "bent 3 bound 3 floor 3",
            " |   | ",
            " +-+ | ",
            "   | | ",
            " +-#-+ ",
            " | |   ",
            " | +-+ ",
            " |   | ",
        ])

    def test_bends_that_are_not_needed(self):
        self.check_planned("top a . a\nbottom . . .\nleft\nright\nbend 1 a\n", [
            "straight 1 bound 1 floor 1",
            " |   | ",
            " +---+ ",
            "       ",
        ])

    def test_a_count_below_the_bound(self):
        self.check_planned("top a a c e c e\nbottom b b . . . .\nleft\nright\n", [
            "straight 2 bound 3 floor 2",
            " | | | | | | ",
            " +-+ +-#-+ | ",
            "       |   | ",
            " +-+   +---+ ",
            " | |         ",
        ])

    def test_a_count_between_floor_and_bound(self):
        self.check_planned("top b . d a c b c\nbottom a d b . . b .\nleft\nright\nwide b 2\nwide c 3\n", [
            "straight 6 bound 7 floor 5",
            " |   | | | | | ",
            " | +-+ | +-#-+ ",
            " | |   |   |   ",
            " | |   |   |   ",
            " | |   |   |   ",
            " | |   |   |   ",
            " | |   |   |   ",
            " +-#-+-#---+   ",
            "   | | |   |   ",
            "   | | |   |   ",
            "   | | |   |   ",
            " +-#-#-+   |   ",
            " | | |     |   ",
        ])

    def test_a_floor_by_a_chain(self):
        self.check_planned("top a a b .\nbottom . b c c\nleft\nright\n", [
            "straight 3 bound 3 floor 3",
            " | | |   ",
            " +-+ |   ",
            "     |   ",
            "   +-+   ",
            "   |     ",
            "   | +-+ ",
            "   | | | ",
        ])

    def test_keeps_count(self):
        text = "top a .\nbottom a .\nleft\nright\nkeep 0 1 2\n"
        self.check_planned(text, ["straight 2 bound 2 floor 2"] + [" |   "] * 5)

    def test_two(self):
        self.check_planned(BENT + "next\n" + STRAIGHT, [
            "bent 3 bound 3 floor 3",
            "straight 3 bound 3 floor 3",
            " |   | ",
            " +-+ | ",
            "   | | ",
            " +-#-+ ",
            " | |   ",
            " | +-+ ",
            " |   | ",
            "=|=====",
            " | | | ",
            " +-#-+ ",
            "   |   ",
            " +-#-+ ",
            " | | | ",
            " | +-#-",
            " |   | ",
        ])

    def test_in_their_order(self):
        told = planned(STRAIGHT + "next\n" + BENT).split("\n")
        self.assertEqual(told[:3], ["straight 3 bound 3 floor 3", "bent 3 bound 3 floor 3", " | | | "])

    def test_eight(self):
        text = "next\n".join(["top a .\nbottom a .\nleft\nright\n"] * 8)
        self.check_planned(text, ["straight 0 bound 0 floor 0"] * 8 + ([" |   ", "=|==="] * 8)[:-1])

    def test_the_same_channel_twice(self):
        self.check_planned(EMPTY + "next\n" + EMPTY, ["straight 0 bound 0 floor 0"] * 2 + ["   ", "===", "   "])


class FormTest(PlannedCase):
    def check_same(self, text, other):
        self.assertEqual(self.asked(planned, text), planned(other))

    def test_blanks_beside_next(self):
        due = STRAIGHT + "next\n" + BENT
        for word in ("next", " next", "next ", "   next   "):
            self.check_same(STRAIGHT + word + "\n" + BENT, due)

    def test_lines_of_blanks(self):
        due = STRAIGHT + "next\n" + BENT
        self.check_same("\n  \n" + STRAIGHT + "\n\n next\n   \n\n" + BENT + "\n \n", due)
        self.check_same(due.replace("\n", "\n\n"), due)

    def test_blanks_elsewhere(self):
        due = STRAIGHT + "next\n" + BENT
        self.check_same(due.replace(" ", "   ").replace("\n", "  \n  "), due)

    def test_without_the_last_line_feed(self):
        self.check_same(EMPTY[:-1], EMPTY)
        self.check_same(STRAIGHT + "next\n" + BENT[:-1], STRAIGHT + "next\n" + BENT)

    def test_names_like_other_words(self):
        names = ["next", "top", "bottom", "left", "right", "wide", "bend", "keep"]
        text = (
            "top " + " ".join(names) + "\nbottom " + " ".join(names) + "\nleft keep next top\nright bend next\n"
            "wide keep 2\nwide next 3\n"
        )
        channel = read_channel(text)
        self.assertEqual(planned(text).split("\n")[1:-1], drawn(laid(channel)).split("\n"))
        told = planned(text + "next\n" + text)
        layout = laid(channel)
        self.assertEqual(told.split("\n")[2:-1], drawn_pile([layout, layout]).split("\n"))

    def test_a_pin_called_next_alone(self):
        self.check_planned("top next\nbottom next\nleft\nright\n", ["straight 0 bound 0 floor 0", " | "])
        self.check_planned("top .\nbottom .\nleft next\nright next\nnext\n" + EMPTY, [
            "straight 1 bound 1 floor 1",
            "straight 0 bound 0 floor 0",
            "   ",
            "---",
            "   ",
            "===",
            "   ",
        ])

    def test_the_longest_text(self):
        text = "next\n".join([STRAIGHT] * 8)
        self.check_same(text + " " * (6000 - len(text)), text)


class PlannedRefusedTest(PlannedCase):
    def check_bad(self, text):
        self.refused(BadText, [], planned, text)

    def test_no_text(self):
        for text in ("", "\n", "   ", " \n \n"):
            self.check_bad(text)

    def test_next_alone(self):
        for text in ("next", "next\n", " next \n", "next\nnext\n"):
            self.check_bad(text)

    def test_next_at_the_beginning(self):
        self.check_bad("next\n" + EMPTY)
        self.check_bad(" \nnext\n" + EMPTY)

    def test_next_at_the_end(self):
        self.check_bad(EMPTY + "next\n")
        self.check_bad(EMPTY + "next")
        self.check_bad(EMPTY + "next\n \n")

    def test_two_of_them_one_behind_the_other(self):
        self.check_bad(EMPTY + "next\nnext\n" + EMPTY)
        self.check_bad(EMPTY + "next\n \n next\n" + EMPTY)

    def test_channels_that_nothing_parts(self):
        self.check_bad(EMPTY + EMPTY)

    def test_words_that_are_not_next(self):
        for word in ("Next", "nex", "nextt", "next next", "next 1", "next .", ".next", "n ext", "next,"):
            self.check_bad(EMPTY + word + "\n" + EMPTY)

    def test_next_within_a_channel(self):
        self.check_bad("top .\nnext\nbottom .\nleft\nright\n")
        self.check_bad("top .\nbottom .\nleft\nnext\nright\n")
        self.check_bad("top .\nbottom .\nleft\nright\nnext\nkeep 0 0 1\n")

    def test_a_text_that_is_none(self):
        for bad in ("x", "top\nbottom\nleft\nright\n", "top A\nbottom .\nleft\nright\n", EMPTY + "keep 0 0 001\n"):
            self.check_bad(bad)
            self.check_bad(bad + "\nnext\n" + EMPTY)
            self.check_bad(EMPTY + "next\n" + bad)
            self.check_bad(EMPTY + "next\n" + bad + "\nnext\n" + EMPTY)

    def test_a_text_that_is_none_behind_one_that_laid_refuses(self):
        for text, refusal, fields in REFUSED:
            self.check_bad(text + "next\n" + "x")
            self.check_bad(text + "next\n" + EMPTY + "next\n")
            self.check_bad("x\nnext\n" + text)

    def check_refused(self, text, refusal, fields):
        names = list(fields) + ["ring"] * (refusal is NoLayout)
        refused = self.refused(refusal, names, planned, text)
        for name, value in fields.items():
            self.assertEqual(getattr(refused, name), value)
        return refused

    def test_as_laid_does(self):
        for text, refusal, fields in REFUSED:
            with self.subTest(refusal):
                self.check_refused(text, refusal, fields)
                self.check_refused(text + "next\n" + text, refusal, fields)
                self.check_refused(EMPTY + "next\n" + text, refusal, fields)
                self.check_refused(text + "next\n" + EMPTY, refusal, fields)

    def test_a_ring(self):
        refused = self.check_refused(RINGED, *REFUSED[-1][1:])
        self.assertEqual(sorted(refused.ring), [(0, 1, 0), (1, 0, 1)])

    def test_the_first_channel_first(self):
        for text, refusal, fields in REFUSED:
            for other, other_refusal, other_fields in REFUSED:
                self.check_refused(text + "next\n" + other, refusal, fields)
        self.check_refused(EMPTY + "next\n" + LONE.replace("a", "b") + "next\n" + LONE, Lone, {"word": "b"})

    def test_two_widths_that_differ(self):
        self.refused(BadPile, [], planned, EMPTY + "next\n" + STRAIGHT)
        self.refused(BadPile, [], planned, STRAIGHT + "next\n" + BENT + "next\n" + EMPTY)

    def test_what_laid_refuses_goes_ahead_of_the_pile(self):
        for text, refusal, fields in REFUSED:
            self.check_refused(STRAIGHT + "next\n" + text, refusal, fields)
            self.check_refused(text + "next\n" + STRAIGHT, refusal, fields)


class RingedTest(AskingCase):
    def check_ringed(self, text, form):
        told = self.asked(ringed, text)
        self.assertIs(type(told), str)
        lines = [form]
        channel = read_channel(text)
        pieces = pieces_of(channel)
        for p, q, column in ring_of(channel) or []:
            lines.append(" ".join([pieces[p][0], "over", pieces[q][0], "at", str(column)]))
        self.assertEqual(told, "".join(line + "\n" for line in lines))
        return lines

    def test_straight(self):
        for text in (EMPTY, STRAIGHT, "top a . a\nbottom . . .\nleft\nright\nbend 1 a\n"):
            self.assertEqual(self.check_ringed(text, "straight"), ["straight"])

    def test_bent(self):
        self.assertIn(self.check_ringed(BENT, "bent"), [
            ["bent", "a over b at 0", "b over a at 2"],
            ["bent", "b over a at 2", "a over b at 0"],
        ])

    def test_none(self):
        self.assertIn(self.check_ringed(RINGED, "none"), [
            ["none", "a over b at 0", "b over a at 1"],
            ["none", "b over a at 1", "a over b at 0"],
        ])

    def test_none_where_bends_do_not_help(self):
        text = "top a . b a .\nbottom b . a . a\nleft\nright\nbend 3 a\n"
        self.assertEqual(sorted(self.check_ringed(text, "none")), ["a over b at 0", "b over a at 2", "none"])

    def test_a_ring_of_three_in_its_order(self):
        lines = self.check_ringed("top a b c\nbottom c a b\nleft\nright\n", "none")
        self.assertEqual(sorted(lines[1:]), ["a over c at 0", "b over a at 1", "c over b at 2"])
        self.assertEqual([line.split()[2] for line in lines[1:]], [line.split()[0] for line in lines[2:] + lines[1:2]])

    def test_columns_of_two_figures(self):
        text = "top a " + ". " * 20 + "b\nbottom b " + ". " * 20 + "a\nleft\nright\n"
        self.assertEqual(sorted(self.check_ringed(text, "none")), ["a over b at 0", "b over a at 21", "none"])

    def test_numbers_of_pieces_behind_keeps(self):
        lines = self.check_ringed(RINGED + "keep 0 1 1\nkeep 1 1 2\n", "none")
        self.assertEqual(sorted(lines), ["a over b at 0", "b over a at 1", "none"])

    def test_a_net_called_keep(self):
        lines = self.check_ringed("top keep at\nbottom at keep\nleft\nright\n", "none")
        self.assertEqual(sorted(lines), ["at over keep at 1", "keep over at at 0", "none"])

    # Nothing must lie above a keep, so none is in a channel's ring: it is asked of the line alone.
    def test_the_word_for_a_keep(self):
        pieces = [(None, 0, 3, 2), ("a", 1, 3, 1)]
        self.assertEqual(triple_line(pieces, (0, 1, 1)), "keep over a at 1")
        self.assertEqual(triple_line(pieces, (1, 0, 12)), "a over keep at 12")

    def test_blanks_and_the_last_line_feed(self):
        for text in (RINGED[:-1], RINGED.replace(" ", "  "), "\n" + RINGED.replace("\n", "\n\n ")):
            self.assertEqual(ringed(text), ringed(RINGED))

    def test_bad_texts(self):
        for text in ("", "x", "next\n", RINGED + "next\n" + RINGED, RINGED + "next\n", RINGED + RINGED, "top a\n"):
            self.refused(BadText, [], ringed, text)

    def test_as_the_check_does(self):
        for text, refusal, fields in REFUSED[:-1]:
            refused = self.refused(refusal, list(fields), ringed, text)
            self.assertEqual(vars(refused), fields)


class ManyTest(AskingCase):
    # Point 31, of channels that are told by their texts.
    def due_planned(self, channels):
        layouts = [laid(channel) for channel in channels]
        lines = []
        for layout in layouts:
            levels = levels_of(layout.pieces, layout.above)
            lines.append(" ".join([
                "bent" if layout.bent else "straight", str(count_of(layout.pieces, layout.tracks)),
                "bound", str(bound_of(layout.pieces, levels)), "floor", str(floor_of(layout.pieces, layout.above)[1]),
            ]))
        return "\n".join(lines + [drawn_pile(layouts)]) + "\n"

    def test_planned(self):
        chance = random.Random(41)
        seen = {"told": 0, "refused": 0, "several": 0, "bent": 0}
        for turn in range(150):
            channels = good_channels(1, turn) + good_channels(1, turn + 1000) + tangled_channels(2, turn)
            columns = len(channels[0].top)
            channels = [channel for channel in channels if len(channel.top) == columns][:chance.randint(1, 3)]
            channels = channels * chance.choice([1, 2])
            text = "next\n".join(written_channel(channel) for channel in channels)
            with self.subTest(text):
                try:
                    due = self.due_planned(channels)
                except WireError as refusal:
                    self.refused(type(refusal), list(vars(refusal)), planned, text)
                    seen["refused"] += 1
                    continue
                self.assertEqual(self.asked(planned, text), due)
                seen["told"] += 1
                seen["several"] += len(channels) > 1
                seen["bent"] += due.startswith("bent")
        self.assertGreater(seen["told"], 80, seen)
        self.assertGreater(min(seen.values()), 3, seen)

    def test_ringed(self):
        seen = {"straight": 0, "bent": 0, "none": 0}
        for channel in good_channels(80, 42) + tangled_channels(200, 42):
            with self.subTest(vars(channel)):
                told = self.asked(ringed, written_channel(channel))
                form, *lines = told.split("\n")[:-1]
                seen[form] += 1
                pieces = pieces_of(channel)
                above = above_of(channel, pieces)
                ring = ring_of(channel)
                self.assertEqual(form == "straight", ring is None)
                self.assertEqual(form, self.due_form(channel))
                self.assertEqual(lines, [f"{pieces[p][0]} over {pieces[q][0]} at {c}" for p, q, c in ring or []])
                self.assertTrue(all(triple in above for triple in ring or []))
                self.assertEqual(told, "".join(line + "\n" for line in [form, *lines]))
        self.assertGreater(min(seen.values()), 15, seen)

    def due_form(self, channel):
        try:
            return "bent" if laid(channel).bent else "straight"
        except NoLayout:
            return "none"


if __name__ == "__main__":
    unittest.main()
