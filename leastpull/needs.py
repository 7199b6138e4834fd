"""Needs: futures that show for what a row is kept, a source is open, and a read is made."""

from leastpull.arguments import is_number_below
from leastpull.errors import FlowError
from leastpull.futures import carry_out
from leastpull.keeping import is_open, keeps, keeps_own_last, position_that_keeps, reader_that_keeps
from leastpull.plans import Plan, further_values, future_of, hang_on_read, pulls_for, rows_to_access
from leastpull.states import has_produced
from leastpull.steps import next_step_of


def need_of_row(flow, node, index):
    """A future in which the produced index is accessed; None if there is none."""
    plan = Plan(flow.state)
    if not keeps(plan.state, plan.measures, node, index):
        return None
    return _need(plan, _pulls_to_access(plan, node, index))


def _pulls_to_access(plan, node, index):
    """Pulls in which a kept index is accessed, if the plan comes true."""
    state = plan.state
    reader = reader_that_keeps(state, node, index)
    if reader is not None:
        return [reader for _ in range(index - state.readers[reader].position + 1)]
    if keeps_own_last(state, plan.measures, node, index):
        return pulls_for(plan, node, 1)
    consumer, place = position_that_keeps(state, plan.measures, node, index)
    return pulls_for(plan, consumer, rows_to_access(plan, consumer, place, index))


def need_of_source(flow, node):
    """A future in which the source is read; None if there is none."""
    plan = Plan(flow.state)
    if not is_open(plan.state, plan.measures, node):
        return None
    return _need(plan, pulls_for(plan, node, 1))


def _need(plan, pulls):
    return future_of(plan, further_values(plan, pulls), pulls)


def pair_for_read(flow, reader):
    """Two futures that differ in what the next read yields, and in their results; None if it is not to read."""
    source = _source_to_read(flow, reader)
    if source is None:
        return None
    plan = Plan(flow.state)
    hang_on_read(plan, reader, ("read", source))
    further = further_values(plan, [reader])
    at = list(plan.state.supply).index(source)
    other = list(further)
    # Rows are sums of what was read, so greater values make another row.
    other[at] = [1 for _ in further[at]]
    return future_of(plan, further, [reader]), future_of(plan, other, [reader])


def _source_to_read(flow, reader):
    """The source that the next step of a reader reads; None if there is no such reader or step."""
    if not is_number_below(reader, len(flow.state.readers)):
        return None
    step = next_step_of(flow.state, reader)
    return step[1] if step[0] == "read" else None


def is_need_of_row(flow, node, index, future):
    """True if the produced index is accessed in the future."""
    if not has_produced(flow.state, node, index):
        return False
    outcome = _outcome(flow, future)
    return outcome is not None and (node, index) in outcome.accessed


def is_need_of_source(flow, node, future):
    """True if the source is read in the future."""
    outcome = _outcome(flow, future)
    return outcome is not None and node in outcome.reads


def is_pair_for_read(flow, reader, one, two):
    """True if the futures differ in what the reader's next read yields alone, and in their results."""
    source = _source_to_read(flow, reader)
    if source is None:
        return False
    outcome, other_outcome = _outcome(flow, one), _outcome(flow, two)
    if outcome is None or other_outcome is None:
        return False
    if one.pulls != [reader] or two.pulls != [reader] or one.tapes != two.tapes:
        return False
    at = list(flow.state.supply).index(source)
    if one.further[:at] != two.further[:at] or one.further[at + 1:] != two.further[at + 1:]:
        return False
    return outcome.results != other_outcome.results


def _outcome(flow, future):
    """The outcome of a future; None if it cannot be carried out."""
    try:
        return carry_out(flow, future)
    except FlowError:
        return None
