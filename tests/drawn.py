"""Graphs, flows and futures that are drawn by chance, the same ones for the same seed."""

from leastpull.errors import GraphError
from leastpull.flows import Flow
from leastpull.futures import Future
from leastpull.graphs import Graph, calling_nodes, source_nodes

SOURCE = ("source",)
KINDS = ("source", "map", "filter", "while", "take", "drop", "window", "scan", "zip", "merge")

# How often each kind is drawn: all alike, or mostly those that are hard together.
WEIGHTS = (
    (1, 2, 2, 2, 2, 2, 2, 2, 2, 2),
    (1, 0.3, 3, 0.3, 3, 3, 1, 0.3, 3, 0.5),
    (1, 0.3, 0.5, 0.3, 3, 3, 1, 0.3, 1, 4),
    (1, 1, 3, 1, 2, 2, 1, 0.3, 1, 3),
)


def drawn_graph(rng, most=12):
    weights = rng.choice(WEIGHTS)
    nodes = [SOURCE]
    wanted = rng.randint(2, most)
    while len(nodes) < wanted:
        node = drawn_node(rng, rng.choices(KINDS, weights)[0], len(nodes))
        try:
            nodes = Graph(nodes + [node]).nodes
        except GraphError:
            pass
    return Graph(nodes)


def drawn_node(rng, kind, count):
    p = max(rng.randrange(count), rng.randrange(count))
    q = rng.randrange(count)
    if kind == "source":
        return SOURCE
    if kind in ("take", "drop"):
        return kind, rng.choice((0, 1, 1, 2, 2, 3, 4, 5)), p
    if kind == "window":
        return kind, rng.choice((1, 2, 2, 3)), p
    if kind == "scan":
        return kind, rng.randint(-1000, 1000), p
    if kind in ("zip", "merge"):
        return rng.choice(((kind, p, q), (kind, q, p)))
    return kind, p


def drawn_values(rng, graph, most):
    return [
        [rng.randint(-30, 30) for _ in range(rng.choice((0, 1, 2, 4, most)))]
        for _ in source_nodes(graph)
    ]


def drawn_rules(rng, graph):
    return [tuple(rng.choice((0, 1, rng.randint(-9, 9))) for _ in range(3)) for _ in calling_nodes(graph)]


def drawn_parts(rng, most_nodes=12, most_values=9):
    """What Flow is passed: a graph, nodes of readers, values and rules."""
    graph = drawn_graph(rng, most_nodes)
    last = len(graph.nodes) - 1
    nodes = [rng.choice((last, rng.randint(0, last))) for _ in range(rng.randint(1, 3))]
    return graph, nodes, drawn_values(rng, graph, most_values), drawn_rules(rng, graph)


def walk(rng, flow, most):
    """Steps, pulls, forks and closings of readers by chance; yields ahead of the first and behind each."""
    yield
    for _ in range(most):
        readers = flow.readers()
        reader = rng.randrange(len(readers))
        chance = rng.random()
        if chance < 0.7:
            # The single steps stop where only a pull goes on.
            if flow.step(reader)[0] in ("ready", "exhausted"):
                flow.pull(reader)
        elif chance < 0.9:
            flow.pull(reader)
        elif chance < 0.95 and len(readers) < 12:
            flow.fork(reader)
        else:
            flow.close(reader)
        yield
        if not any(active for _, _, active in readers):
            break


def drawn_future(rng, flow):
    graph = flow.graph
    further = [
        [rng.randint(-3, 3) for _ in range(rng.choice((0, 0, 1, 2, 5, 20)))]
        for _ in source_nodes(graph)
    ]
    tapes = [drawn_tape(rng, graph.nodes[node][0]) for node in calling_nodes(graph)]
    pulls = [rng.randrange(len(flow.readers())) for _ in range(rng.randint(0, 10))]
    return Future(further, tapes, pulls)


def drawn_tape(rng, kind):
    if kind in ("map", "scan"):
        return [rng.randint(-5, 5) for _ in range(rng.randint(0, 3))], rng.randint(-5, 5)
    return [rng.random() < 0.5 for _ in range(rng.randint(0, 8))], rng.random() < 0.6


def drawn_flow(rng, most_nodes=12, most_values=9):
    return Flow(*drawn_parts(rng, most_nodes, most_values))
