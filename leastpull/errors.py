"""The errors that the program raises."""


class LeastpullError(ValueError):
    """The base class of all errors that the program raises."""


class GraphError(LeastpullError):
    """A list of nodes that is no graph: the first wrong node, or how many nodes there are, and why."""

    def __init__(self, node, reason):
        super().__init__(f"node {node}: {reason}")
        self.node = node
        self.reason = reason


class TextError(LeastpullError):
    """A text that is none of a graph: the number of its first wrong line."""

    def __init__(self, line):
        super().__init__(f"line {line}: not a line of a graph's text")
        self.line = line


class FlowError(LeastpullError):
    """Something that a flow cannot be made of, or cannot do, and why."""

    def __init__(self, reason):
        super().__init__(f"{reason}")
        self.reason = reason
