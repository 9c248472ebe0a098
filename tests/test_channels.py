import unittest

from wirechannel.channels import Channel, is_name

FIELDS = ["top", "bottom", "left", "right", "wide", "bends", "keeps"]


def seven_lists():
    return [["a", None], ["b", "a"], ["b"], ["a"], [("a", 2)], [(0, "a")], [(0, 1, 2)]]


class ChannelTest(unittest.TestCase):
    def test_the_seven_lists_are_fields(self):
        channel = Channel(*seven_lists())
        self.assertEqual([getattr(channel, field) for field in FIELDS], seven_lists())
        for field in FIELDS:
            self.assertIs(type(getattr(channel, field)), list)

    def test_arguments_by_name(self):
        channel = Channel(**dict(zip(FIELDS, seven_lists())))
        self.assertEqual([getattr(channel, field) for field in FIELDS], seven_lists())

    def test_changing_a_channel_changes_no_list_that_was_handed_in(self):
        given = seven_lists()
        channel = Channel(*given)
        for field in FIELDS:
            getattr(channel, field).clear()
        self.assertEqual(given, seven_lists())

    def test_two_channels_of_the_same_lists_share_none(self):
        given = seven_lists()
        one = Channel(*given)
        other = Channel(*given)
        for field in FIELDS:
            getattr(one, field).clear()
        self.assertEqual([getattr(other, field) for field in FIELDS], seven_lists())


class IsNameTest(unittest.TestCase):
    def test_the_empty_text_is_none(self):
        self.assertIs(is_name(""), False)

    def test_one_to_six_small_letters(self):
        for word in ("a", "z", "ab", "abc", "zyxw", "abcde", "abcdef", "zzzzzz"):
            with self.subTest(word):
                self.assertIs(is_name(word), True)

    def test_each_small_letter(self):
        for letter in "abcdefghijklmnopqrstuvwxyz":
            self.assertIs(is_name(letter), True)

    def test_seven_letters_and_more_are_none(self):
        for word in ("abcdefg", "aaaaaaaa", "a" * 6000):
            self.assertIs(is_name(word), False)

    def test_no_other_sign_at_the_beginning_in_the_middle_or_at_the_end(self):
        signs = [chr(code) for code in range(32, 127) if not "a" <= chr(code) <= "z"] + ["\n"]
        for sign in signs:
            for word in (sign, sign + "ab", "a" + sign + "b", "ab" + sign, "abcde" + sign):
                with self.subTest(word):
                    self.assertIs(is_name(word), False)


if __name__ == "__main__":
    unittest.main()
