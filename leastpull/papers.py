"""Papers: bounds by which no future needs a row or a source."""

from leastpull.arguments import copied
from leastpull.keeping import keeps
from leastpull.kinds import is_whole
from leastpull.measures import demand_of, look_of, measured, remaining_of
from leastpull.states import has_produced
from leastpull.unlimited import is_at_most


class Paper:
    """A paper: bounds of the remaining outputs, of the demands, and of the looks."""

    def __init__(self, remaining, demands, looks):
        self.remaining = copied(remaining)
        self.demands = copied(demands)
        self.looks = copied(looks)


def paper_of(flow):
    """The paper whose bounds are as the measures of the flow tell."""
    measures = measured(flow.state)
    return Paper(measures.remaining, measures.demands, measures.looks)


def is_right(flow, paper):
    """True if each bound is at least what the other bounds make of it."""
    state = flow.state
    if not _is_paper(state, paper):
        return False
    return all([_is_right_for(state, number, paper) for number in range(len(state.nodes))])


def _is_paper(state, paper):
    """True if there is a bound for each node, another one, and one for each position."""
    count = len(state.nodes)
    if not _are_bounds(paper.remaining, count) or not _are_bounds(paper.demands, count):
        return False
    if not isinstance(paper.looks, list) or len(paper.looks) != count:
        return False
    return all([_are_bounds(looks, len(nodes)) for looks, nodes in zip(paper.looks, state.inputs)])


def _are_bounds(bounds, count):
    if not isinstance(bounds, list) or len(bounds) != count:
        return False
    return all([_is_bound(bound) for bound in bounds])


def _is_bound(bound):
    return bound is None or (is_whole(bound) and bound >= 0)


def _is_right_for(state, number, paper):
    """True if the bounds for one node are right."""
    if not is_at_most(remaining_of(state, number, paper.remaining), paper.remaining[number]):
        return False
    if not is_at_most(demand_of(state, number, paper), paper.demands[number]):
        return False
    looks = paper.looks[number]
    return all([is_at_most(look_of(state, number, place, paper), look) for place, look in enumerate(looks)])


def denies_row(flow, paper, node, index):
    """True if the paper is right and does not keep the produced index."""
    if not has_produced(flow.state, node, index) or not is_right(flow, paper):
        return False
    return not keeps(flow.state, paper, node, index)


def denies_source(flow, paper, node):
    """True if the paper is right and shows that the source is not needed."""
    state = flow.state
    if node not in state.supply or not is_right(flow, paper):
        return False
    return state.ended[node] or state.closed[node] or paper.demands[node] == 0
