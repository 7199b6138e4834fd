"""Futures: what may come, and what comes of it."""

from leastpull.arguments import are_values, copied, is_number_below, is_value
from leastpull.errors import FlowError
from leastpull.steps import pull_with
from leastpull.voices import TapeVoice

MOST_FURTHER_VALUES = 2000
MOST_PULLS = 2000


class Future:
    """A future: further values of the sources, tapes of the calling nodes, and pulls."""

    def __init__(self, further, tapes, pulls):
        self.further = copied(further)
        self.tapes = copied(tapes)
        self.pulls = copied(pulls)


class Outcome:
    """What carrying out a future tells."""

    def __init__(self, results, accessed, reads):
        self.results = copied(results)
        self.accessed = copied(accessed)
        self.reads = copied(reads)


def carry_out(flow, future):
    """The outcome of a future; the flow stays as it is."""
    _check(flow.state, future)
    state = _state_to_come(flow.state, future)
    events_so_far = len(state.events)
    results = [pull_with(state, reader) for reader in future.pulls]
    # A dict keeps the order of the first of several reads of a source.
    reads = {node: True for word, node in state.events[events_so_far:] if word == "read"}
    return Outcome(results, list(state.accessed), list(reads))


def _check(state, future):
    """Raises FlowError with the first reason why the future cannot be carried out."""
    if not are_values(future.further, len(state.supply), MOST_FURTHER_VALUES):
        raise FlowError("wrong values")
    if not _are_tapes(state, future.tapes):
        raise FlowError("wrong tapes")
    if not _are_pulls(future.pulls, len(state.readers)):
        raise FlowError("wrong pulls")


def _are_tapes(state, tapes):
    if not isinstance(tapes, list) or len(tapes) != len(state.voices):
        return False
    return all([_is_tape(state.nodes[node][0], tape) for node, tape in zip(state.voices, tapes)])


def _is_tape(kind, tape):
    if not isinstance(tape, tuple) or len(tape) != 2 or not isinstance(tape[0], list):
        return False
    return all([_is_mark(kind, mark) for mark in tape[0] + [tape[1]]])


def _is_mark(kind, mark):
    return is_value(mark) if kind in ("map", "scan") else isinstance(mark, bool)


def _are_pulls(pulls, count):
    if not isinstance(pulls, list) or len(pulls) > MOST_PULLS:
        return False
    return all([is_number_below(reader, count) for reader in pulls])


def _state_to_come(state, future):
    """A copy of the state that goes on with what the future tells."""
    supply = {}
    for source, further in zip(state.supply, future.further):
        supply[source] = [row[0] for row in state.outputs[source]] + further
    voices = {}
    for node, tape in zip(state.voices, future.tapes):
        voices[node] = TapeVoice(state.nodes[node][0], list(tape[0]), tape[1])
    return state.twin(supply, voices)
