"""What the functions of the calling nodes answer, each told by a rule (a, b, c)."""


def map_answer(rule, row, index):
    """The integer that a map answers for a row of its input."""
    a, b, c = rule
    return (a * sum(row) + b * index + c) % 1000


def filter_answer(rule, row, index):
    """What a filter or a while answers for a row of its input, True or False."""
    a, b, c = rule
    return (a * sum(row) + b * index + c) % 3 != 0


def scan_answer(rule, accumulator, row, index):
    """The integer that a scan answers for its accumulator and a row of its input."""
    a, b, c = rule
    return (a * sum(accumulator) + b * sum(row) + c * index) % 1000


def merge_answer(rule, row, index, other_row, other_index):
    """True if a merge takes the row of its first input, False if that of its second one."""
    a, b, c = rule
    return a * sum(row) + c * index <= b * sum(other_row) + c * other_index
