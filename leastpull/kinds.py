"""The ten kinds of node: the forms of their tuples, their widths and their greatest lengths."""

SOURCE_LENGTH = 200

INPUT_COUNTS = {
    "source": 0,
    "map": 1,
    "filter": 1,
    "while": 1,
    "take": 1,
    "drop": 1,
    "window": 1,
    "scan": 1,
    "zip": 2,
    "merge": 2,
}

# Some kinds have an integer of their own ahead of the inputs: its least and its greatest value.
OWN_BOUNDS = {
    "take": (0, 20),
    "drop": (0, 20),
    "window": (1, 20),
    "scan": (-1000, 1000),
}

CALLING_KINDS = ("map", "filter", "while", "scan", "merge")


def is_whole(value):
    """True if value is an integer; bools are none."""
    return isinstance(value, int) and not isinstance(value, bool)


def is_within(value, bounds):
    """True if value is an integer from the first of both bounds to the second one."""
    lowest, highest = bounds
    return is_whole(value) and lowest <= value <= highest


def inputs_of(node):
    """The tuple of the inputs of a node."""
    return node[2:] if node[0] in OWN_BOUNDS else node[1:]


def is_node(node):
    """True if node has one of the ten forms, whatever nodes there are ahead of it."""
    if not isinstance(node, tuple) or len(node) == 0:
        return False
    kind = node[0]
    # Only a string may be looked up: other values need not be keys of a dict at all.
    if not isinstance(kind, str) or kind not in INPUT_COUNTS:
        return False
    inputs = inputs_of(node)
    if len(inputs) != INPUT_COUNTS[kind]:
        return False
    if kind in OWN_BOUNDS and not is_within(node[1], OWN_BOUNDS[kind]):
        return False
    return all([is_whole(p) and p >= 0 for p in inputs])


def width_of(node, widths_ahead):
    """The width of a node, by those of the nodes ahead of it."""
    kind = node[0]
    if kind in ("source", "map", "scan"):
        return 1
    below = [widths_ahead[p] for p in inputs_of(node)]
    if kind == "window":
        return node[1] * below[0]
    if kind == "zip":
        return below[0] + below[1]
    return below[0]


def greatest_length_of(node, lengths_ahead):
    """The greatest length of a node, by those of the nodes ahead of it."""
    kind = node[0]
    if kind == "source":
        return SOURCE_LENGTH
    below = [lengths_ahead[p] for p in inputs_of(node)]
    if kind == "take":
        return min(node[1], below[0])
    if kind == "drop":
        return max(0, below[0] - node[1])
    if kind == "window":
        return max(0, below[0] - (node[1] - 1))
    if kind == "zip":
        return min(below[0], below[1])
    if kind == "merge":
        return below[0] + below[1]
    return below[0]


def all_widths(nodes):
    """The list of the widths of right nodes."""
    found = []
    for node in nodes:
        found.append(width_of(node, found))
    return found


def all_greatest_lengths(nodes):
    """The list of the greatest lengths of right nodes."""
    found = []
    for node in nodes:
        found.append(greatest_length_of(node, found))
    return found
