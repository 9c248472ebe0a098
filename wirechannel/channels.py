"""Channels, and what a NAME in them may be."""

LETTERS = "abcdefghijklmnopqrstuvwxyz"
LONGEST_NAME = 6


class Channel:
    # The lists are copied, so that changing a channel changes none that it was made of.
    def __init__(self, top, bottom, left, right, wide, bends, keeps):
        self.top = list(top)
        self.bottom = list(bottom)
        self.left = list(left)
        self.right = list(right)
        self.wide = list(wide)
        self.bends = list(bends)
        self.keeps = list(keeps)


def is_name(word):
    if not 1 <= len(word) <= LONGEST_NAME:
        return False
    return all([sign in LETTERS for sign in word])
