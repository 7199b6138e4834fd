"""The tables of the document over again, reckoned from what a flow tells by its methods.

It is written with the unlimited as a float, and shares nothing with the program but the graph.
"""

from math import inf


def number(value):
    return inf if value is None else value


def told(value):
    return None if value == inf else value


class Reference:
    def __init__(self, flow):
        self.nodes = flow.graph.nodes
        self.produced = [len(rows) for rows in flow.produced()]
        self.positions = flow.positions()
        self.readers = flow.readers()
        self.ended = [node for node, _, state in flow.sources() if state == "ended"]
        self.gone = [node for node, _, state in flow.sources() if state in ("ended", "closed")]
        self.calls = flow.calls()
        self.measure()

    def inputs(self, node):
        own = 2 if self.nodes[node][0] in ("take", "drop", "window", "scan") else 1
        return list(self.nodes[node][own:])

    def while_has_ended(self, node):
        """It has called its function more often than it has produced a row."""
        calls = [index for number, index in self.calls if number == node]
        return self.nodes[node][0] == "while" and len(calls) > self.produced[node]

    def measure(self):
        count = len(self.nodes)
        self.remaining = []
        for node in range(count):
            self.remaining.append(self.remaining_of(node))
        self.demands = [0] * count
        self.looks = [[] for _ in range(count)]
        for node in range(count - 1, -1, -1):
            self.demands[node] = self.demand_of(node)
            self.looks[node] = [self.look_of(node, place) for place in range(len(self.inputs(node)))]

    def available(self, node, place):
        p = self.inputs(node)[place]
        return max(0, self.produced[p] + self.remaining[p] - self.positions[node][place])

    def remaining_of(self, node):
        kind = self.nodes[node][0]
        if node in self.ended or self.while_has_ended(node):
            return 0
        if kind == "source":
            return inf
        available = [self.available(node, place) for place in range(len(self.inputs(node)))]
        return {
            "take": lambda: min(self.nodes[node][1] - self.produced[node], available[0]),
            "window": lambda: max(0, available[0] - (self.nodes[node][1] - 1)),
            "zip": lambda: min(available),
            "merge": lambda: sum(available),
        }.get(kind, lambda: available[0])()

    def places_on(self, node):
        return [
            (consumer, place)
            for consumer in range(len(self.nodes))
            for place, p in enumerate(self.inputs(consumer))
            if p == node
        ]

    def demand_at(self, consumer, place):
        look = self.looks[consumer][place]
        p = self.inputs(consumer)[place]
        return 0 if look == 0 else max(0, self.positions[consumer][place] + look - self.produced[p])

    def active_readers(self, node):
        return [k for k, (at, _, active) in enumerate(self.readers) if at == node and active]

    def demand_of(self, node):
        demands = [self.demand_at(*at) for at in self.places_on(node)]
        if self.active_readers(node):
            demands.append(inf)
        return min(max(demands, default=0), self.remaining[node])

    def look_of(self, node, place):
        kind = self.nodes[node][0]
        if self.demands[node] == 0:
            return 0
        if kind == "filter":
            return self.available(node, place)
        more = self.nodes[node][1] - 1 if kind == "window" else 0
        return min(self.available(node, place), self.demands[node] + more)

    def keepers(self, node, index):
        """The readers that keep an index, and the nodes that do."""
        readers = [k for k in self.active_readers(node) if self.readers[k][1] <= index]
        nodes = []
        if self.nodes[node][0] == "scan" and index == self.produced[node] - 1 and self.demands[node] != 0:
            nodes.append(node)
        for consumer, place in self.places_on(node):
            position = self.positions[consumer][place]
            if position <= index < position + self.looks[consumer][place]:
                nodes.append(consumer)
        return readers, nodes

    def kept(self):
        return [
            [index for index in range(self.produced[node]) if self.keepers(node, index) != ([], [])]
            for node in range(len(self.nodes))
        ]

    def for_whom(self, node):
        readers = self.active_readers(node)
        if readers:
            return [], readers[0]
        consumer = min(c for c, place in self.places_on(node) if self.demand_at(c, place) > 0)
        nodes, reader = self.for_whom(consumer)
        return [consumer] + nodes, reader

    def explain_index(self, node, index):
        readers, keepers = self.keepers(node, index)
        if readers:
            return [], readers[0]
        if not keepers:
            return None
        nodes, reader = self.for_whom(min(keepers))
        return [min(keepers)] + nodes, reader

    def explain_source(self, node):
        if self.nodes[node][0] != "source" or node in self.gone or self.demands[node] == 0:
            return None
        return self.for_whom(node)

    def source_state(self, node, told_state):
        """The state that is to be told, closed and ended taken as they are told."""
        if told_state in ("closed", "ended"):
            return told_state
        return "open" if self.demands[node] else "idle"

    def required(self, node, place):
        more = self.nodes[node][1] - 1 if self.nodes[node][0] == "window" else 0
        return self.positions[node][place] + more

    def step_for_node(self, node):
        if self.remaining[node] == 0:
            return ("exhausted",)
        if self.nodes[node][0] == "source":
            return ("read", node)
        steps = []
        for place, p in enumerate(self.inputs(node)):
            if self.required(node, place) >= self.produced[p]:
                steps.append(self.step_for_node(p))
        fires = [step for step in steps if step[0] == "fire"]
        reads = [step for step in steps if step[0] == "read"]
        return (fires + reads + [("fire", node)])[0]

    def step_for_reader(self, reader):
        node, position, active = self.readers[reader]
        if not active:
            return ("idle",)
        if position < self.produced[node]:
            return ("ready",)
        return self.step_for_node(node)

    def paper_parts(self):
        """The remaining outputs, demands and looks, the unlimited as None."""
        return (
            [told(value) for value in self.remaining],
            [told(value) for value in self.demands],
            [[told(value) for value in looks] for looks in self.looks],
        )

    def is_right(self, remaining, demands, looks):
        """True if these bounds, put in place of the measures, are at least what the tables make of them."""
        self.remaining = [number(value) for value in remaining]
        self.demands = [number(value) for value in demands]
        self.looks = [[number(value) for value in row] for row in looks]
        return all(
            self.remaining[node] >= self.remaining_of(node)
            and self.demands[node] >= self.demand_of(node)
            and all(look >= self.look_of(node, place) for place, look in enumerate(self.looks[node]))
            for node in range(len(self.nodes))
        )
