"""Steps: what comes next for a reader, and doing it."""

from leastpull.measures import all_remaining, measured
from leastpull.states import required_index

READY = ("ready",)
EXHAUSTED = ("exhausted",)
IDLE = ("idle",)


def next_step_of(state, number):
    """The next step of a reader."""
    reader = state.readers[number]
    if not reader.active:
        return IDLE
    if reader.position < len(state.outputs[reader.node]):
        return READY
    return next_steps_of_nodes(state, reader.node)[-1]


def next_steps_of_nodes(state, last):
    """The list of the next steps for the nodes up to this last one."""
    remaining = all_remaining(state)
    found = []
    for number in range(last + 1):
        if remaining[number] == 0:
            found.append(EXHAUSTED)
        elif number in state.supply:
            found.append(("read", number))
        else:
            found.append(_step_of(state, number, found))
    return found


def _step_of(state, number, steps):
    """The next step for a node that can produce rows, by the steps for the nodes ahead of it."""
    needed = [steps[state.inputs[number][place]] for place in lacking_places(state, number)]
    for word in ("fire", "read"):
        for step in needed:
            if step[0] == word:
                return step
    return ("fire", number)


def lacking_places(state, number):
    """The places of the inputs of which a node requires an index that is not produced."""
    return [
        place
        for place, p in enumerate(state.inputs[number])
        if required_index(state, number, place) >= len(state.outputs[p])
    ]


def is_to_be_done(step):
    """True if the step is to fire or to read."""
    return step[0] in ("fire", "read")


def do_step(state, step):
    """Fires a node or reads a source."""
    word, number = step
    if word == "fire":
        _fire(state, number)
    else:
        _read(state, number)


def _read(state, source):
    reads = len(state.outputs[source])
    if reads < len(state.supply[source]):
        state.outputs[source].append([state.supply[source][reads]])
    else:
        state.ended[source] = True
    state.events.append(("read", source))


def _fire(state, number):
    if state.nodes[number][0] == "merge":
        _fire_merge(state, number)
    elif number in state.voices:
        _fire_calling(state, number)
    else:
        _fire_plain(state, number)


def _fire_plain(state, number):
    """Fires a take, drop, window or zip."""
    node = state.nodes[number]
    count = node[1] if node[0] == "window" else 1
    joined = []
    for place in range(len(state.inputs[number])):
        for ahead in range(count):
            joined += _accessed_row(state, number, place, ahead)
        state.positions[number][place] += 1
    state.outputs[number].append(joined)


def _fire_calling(state, number):
    """Fires a map, filter, while or scan."""
    kind = state.nodes[number][0]
    index = state.positions[number][0]
    rows = [_accessed_row(state, number, 0, 0)]
    if kind == "scan":
        rows.append(_accumulator(state, number))
    answer = _call(state, number, rows, (index,))
    state.positions[number][0] += 1
    if kind in ("map", "scan"):
        state.outputs[number].append([answer])
    elif answer:
        state.outputs[number].append(rows[0])
    elif kind == "while":
        state.ended[number] = True


def _fire_merge(state, number):
    lacking = lacking_places(state, number)
    places = [place for place in (0, 1) if place not in lacking]
    rows = [_accessed_row(state, number, place, 0) for place in places]
    taken = 0
    if len(places) == 2 and not _call(state, number, rows, tuple(state.positions[number])):
        taken = 1
    state.positions[number][places[taken]] += 1
    state.outputs[number].append(rows[taken])


def _accessed_row(state, number, place, ahead):
    """Accesses the row so far ahead of a position."""
    return _access(state, state.inputs[number][place], state.positions[number][place] + ahead)


def _accumulator(state, scan):
    last = len(state.outputs[scan]) - 1
    if last < 0:
        return [state.nodes[scan][1]]
    return _access(state, scan, last)


def _access(state, node, index):
    state.accessed[(node, index)] = True
    return state.outputs[node][index]


def _call(state, number, rows, indexes):
    state.calls.append((number, indexes))
    return state.voices[number].answer(rows, indexes)


def pull_with(state, number):
    """Pulls with a reader; a copy of the row that it receives, or None."""
    reader = state.readers[number]
    if not reader.active:
        return None
    step = next_step_of(state, number)
    while is_to_be_done(step):
        do_step(state, step)
        step = next_step_of(state, number)
    row = None
    if step == READY:
        row = list(_access(state, reader.node, reader.position))
        reader.position += 1
    else:
        reader.active = False
    settle(state)
    return row


def settle(state):
    """Closes the sources that nobody can need any more."""
    demands = measured(state).demands
    for source in state.supply:
        if demands[source] == 0 and not state.ended[source] and not state.closed[source]:
            state.closed[source] = True
            state.events.append(("close", source))
