"""Voices: what answers the calls of a node's function."""

from leastpull.rules import filter_answer, map_answer, merge_answer, scan_answer


class RuleVoice:
    """It answers as a rule tells."""

    def __init__(self, kind, rule):
        self.kind = kind
        self.rule = rule

    def answer(self, rows, indexes):
        """The answer for the rows of the inputs (behind them the accumulator of a scan) at these indexes."""
        if self.kind == "map":
            return map_answer(self.rule, rows[0], indexes[0])
        if self.kind == "scan":
            return scan_answer(self.rule, rows[1], rows[0], indexes[0])
        if self.kind == "merge":
            return merge_answer(self.rule, rows[0], indexes[0], rows[1], indexes[1])
        return filter_answer(self.rule, rows[0], indexes[0])


class TapeVoice:
    """It answers with the marks of a list, in order, and behind it always with one more mark."""

    def __init__(self, kind, marks, more):
        self.kind = kind
        self.marks = marks
        self.more = more
        self.calls_so_far = 0

    def answer(self, rows, indexes):
        """The answer for the rows; the indexes mean nothing to a tape."""
        mark = self.more
        if self.calls_so_far < len(self.marks):
            mark = self.marks[self.calls_so_far]
        self.calls_so_far += 1
        if self.kind in ("map", "scan"):
            return sum(rows[0]) + mark
        return mark
