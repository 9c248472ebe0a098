"""Which channels are refused, and why."""

from wirechannel.errors import BadBend, BadKeep, Lone, NoNet
from wirechannel.nets import ends_of, nets_of, stretch_of

MOST_KEPT = 3


def checked_channel(channel):
    refuse_lone(channel)
    refuse_names_without_net(channel)
    refuse_bends(channel)
    refuse_keeps(channel)
    return True


def refuse_lone(channel):
    for name in nets_of(channel):
        if len(ends_of(channel, name)) == 1:
            raise Lone(name)


def refuse_names_without_net(channel):
    nets = nets_of(channel)
    names = [name for name, width in channel.wide] + [name for column, name in channel.bends]
    for name in names:
        if name not in nets:
            raise NoNet(name)


def refuse_bends(channel):
    for column, name in channel.bends:
        if not can_bend(channel, column, name):
            raise BadBend(column)


def can_bend(channel, column, name):
    stretch = stretch_of(channel, name)
    if stretch is None or not stretch[0] < column < stretch[1]:
        return False
    pins = (channel.top[column], channel.bottom[column])
    return name in pins or pins == (None, None)


def refuse_keeps(channel):
    for place, keep in enumerate(channel.keeps):
        if not can_keep(len(channel.top), keep):
            raise BadKeep(place)


def can_keep(columns, keep):
    return keep[0] <= keep[1] < columns and 1 <= keep[2] <= MOST_KEPT
