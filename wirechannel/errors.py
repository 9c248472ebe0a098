"""The refusals, one class each.

Fields stay out of a refusal's words: a number in them may be too long to be written.
"""


class WireError(ValueError):
    pass


class BadText(WireError):
    pass


class Lone(WireError):
    def __init__(self, word):
        WireError.__init__(self, "a NAME has just one end")
        self.word = word


class NoNet(WireError):
    def __init__(self, word):
        WireError.__init__(self, "a NAME has no end")
        self.word = word


class BadBend(WireError):
    def __init__(self, column):
        WireError.__init__(self, "a bend lies where its net can't be bent")
        self.column = column


class BadKeep(WireError):
    def __init__(self, place):
        WireError.__init__(self, "a keep's columns or tracks can't be kept free")
        self.place = place


class NoOrder(WireError):
    def __init__(self, ring):
        WireError.__init__(self, "pieces must lie above one another in a ring")
        self.ring = ring


class NoLayout(WireError):
    def __init__(self, pieces, ring):
        WireError.__init__(self, "no tracks are sound: pieces must lie above one another in a ring")
        self.pieces = pieces
        self.ring = ring


class BadDrawing(WireError):
    pass


class Taken(WireError):
    def __init__(self, word):
        WireError.__init__(self, "a NAME has an end in the channel already")
        self.word = word


class PinTaken(WireError):
    def __init__(self, pin):
        WireError.__init__(self, "a pin can't be put where it is told")
        self.pin = pin


class BadPile(WireError):
    pass
