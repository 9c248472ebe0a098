"""Channels written as texts, and read from them."""

from wirechannel.channels import Channel, is_name
from wirechannel.errors import BadText

FIRST_HEADS = ("top", "bottom", "left", "right")
FIGURES = "0123456789"
PART = 1000000
PART_FIGURES = 6
MOST_COLUMNS = 40
MOST_KEEPS = 8
MOST_NAMES = 24


def written_channel(channel):
    lines = [
        ["top"] + pin_words(channel.top),
        ["bottom"] + pin_words(channel.bottom),
        ["left"] + channel.left,
        ["right"] + channel.right,
    ]
    lines.extend([["wide", name, figures_of(width)] for name, width in channel.wide])
    lines.extend([["bend", figures_of(column), name] for column, name in channel.bends])
    lines.extend([["keep"] + keep_words(keep) for keep in channel.keeps])
    return "".join([" ".join(words) + "\n" for words in lines])


def pin_words(pins):
    return ["." if pin is None else pin for pin in pins]


def keep_words(keep):
    return [figures_of(number) for number in keep]


# A bend's column has no upper bound, and str refuses a number of some thousand
# figures: so it is written part by part.
def figures_of(number):
    parts = []
    rest = number
    while rest >= PART:
        parts.append(str(rest % PART).zfill(PART_FIGURES))
        rest = rest // PART
    parts.append(str(rest))
    parts.reverse()
    return "".join(parts)


def read_channel(text):
    lines = lines_of(text)
    demand_heads([words[0] for words in lines])
    channel = Channel(
        read_pins(lines[0][1:]),
        read_pins(lines[1][1:]),
        read_names(lines[2][1:]),
        read_names(lines[3][1:]),
        [read_wide(words) for words in lines if words[0] == "wide"],
        [read_bend(words) for words in lines if words[0] == "bend"],
        [read_keep(words) for words in lines if words[0] == "keep"],
    )
    demand_lists(channel)
    return channel


def lines_of(text):
    lines = [words_of(line) for line in text.split("\n")]
    return [words for words in lines if len(words) > 0]


# Only the blank parts words: split without an argument would part them at other signs too.
def words_of(line):
    return [word for word in line.split(" ") if word != ""]


def demand(holds, words):
    if not holds:
        raise BadText(words)


def demand_heads(heads):
    due = list(FIRST_HEADS)
    for head in ("wide", "bend", "keep"):
        due.extend([head] * heads.count(head))
    demand(heads == due, "the lines are not those of a channel, in their order")


def read_pins(words):
    return [None if word == "." else read_name(word) for word in words]


def read_names(words):
    return [read_name(word) for word in words]


def read_wide(words):
    demand(len(words) == 3, "a wide line has not three words")
    return (read_name(words[1]), read_number(words[2]))


def read_bend(words):
    demand(len(words) == 3, "a bend line has not three words")
    return (read_number(words[1]), read_name(words[2]))


def read_keep(words):
    demand(len(words) == 4, "a keep line has not four words")
    return (read_number(words[1]), read_number(words[2]), read_number(words[3]))


def read_name(word):
    demand(is_name(word), "a word is no NAME where one is due")
    return word


def read_number(word):
    demand(1 <= len(word) <= 2, "a number has not one or two figures")
    demand(all([sign in FIGURES for sign in word]), "a number has a sign that is no figure")
    demand(len(word) == 1 or word[0] != "0", "a number of two figures begins with a nought")
    return int(word)


def demand_lists(channel):
    demand(len(channel.top) == len(channel.bottom), "top and bottom have not as many words")
    demand(1 <= len(channel.top) <= MOST_COLUMNS, "the columns are too few or too many")
    demand(is_rising(channel.left), "the NAMEs of left are not rising")
    demand(is_rising(channel.right), "the NAMEs of right are not rising")
    demand(is_rising([pair[0] for pair in channel.wide]), "the NAMEs of wide are not rising")
    demand(all([pair[1] in (2, 3) for pair in channel.wide]), "a width is not 2 or 3")
    demand(is_rising([pair[0] for pair in channel.bends]), "the columns of bends are not rising")
    demand(len(channel.keeps) <= MOST_KEEPS, "the keeps are too many")
    demand(len(set(all_names(channel))) <= MOST_NAMES, "the NAMEs are too many")


def is_rising(members):
    return all([one < other for one, other in zip(members, members[1:])])


# The bound counts also the NAMEs that have no end.
def all_names(channel):
    names = [name for name in channel.top + channel.bottom if name is not None]
    names.extend(channel.left + channel.right)
    names.extend([pair[0] for pair in channel.wide])
    names.extend([pair[1] for pair in channel.bends])
    return names
