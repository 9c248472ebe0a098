"""The nets of a channel: their ends, widths and stretches."""


def ends_of(channel, name):
    ends = []
    if name in channel.left:
        ends.append(("left",))
    for column in range(len(channel.top)):
        if channel.top[column] == name:
            ends.append(("top", column))
        if channel.bottom[column] == name:
            ends.append(("bottom", column))
    if name in channel.right:
        ends.append(("right",))
    return ends


def nets_of(channel):
    pins = [name for name in channel.top + channel.bottom if name is not None]
    return sorted(set(pins + channel.left + channel.right))


def width_of(channel, name):
    for wide_name, width in channel.wide:
        if wide_name == name:
            return width
    return 1


def column_of(channel, end):
    if end[0] == "left":
        return -1
    if end[0] == "right":
        return len(channel.top)
    return end[1]


def stretch_of(channel, name):
    columns = [column_of(channel, end) for end in ends_of(channel, name)]
    # Ends in one column face one another: no track is needed to join them.
    if len(set(columns)) < 2:
        return None
    return (min(columns), max(columns))
