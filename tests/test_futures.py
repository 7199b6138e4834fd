"""Futures: what carrying them out tells, and what cannot be carried out."""

import random
import unittest

from drawn import drawn_flow, drawn_future, walk
from flowing import FlowCase, all_told, flow_of, pulled, steps_of
from leastpull.futures import Future, Outcome, carry_out
from leastpull.needs import is_need_of_row, is_need_of_source

VALUES = "wrong values"
TAPES = "wrong tapes"
PULLS = "wrong pulls"


class FutureCase(FlowCase):
    def assert_outcome(self, flow, future, results, accessed, reads):
        told = all_told(flow)
        outcome = carry_out(flow, future)
        self.assertEqual((outcome.results, outcome.accessed, outcome.reads), (results, accessed, reads))
        self.assertEqual(all_told(flow), told)


class FieldsTest(FutureCase):
    def test_fields_of_a_future(self):
        future = Future([[1], []], [([True], False), ([], 3)], [0, 0, 1])
        self.assertEqual(future.further, [[1], []])
        self.assertEqual(future.tapes, [([True], False), ([], 3)])
        self.assertEqual(future.pulls, [0, 0, 1])
        named = Future(pulls=[2], further=[[4]], tapes=[])
        self.assertEqual((named.further, named.tapes, named.pulls), ([[4]], [], [2]))

    def test_fields_of_an_outcome(self):
        outcome = Outcome([[1], None], [(0, 0), (1, 0)], [0])
        self.assertEqual((outcome.results, outcome.accessed, outcome.reads), ([[1], None], [(0, 0), (1, 0)], [0]))
        named = Outcome(reads=[1], results=[], accessed=[])
        self.assertEqual((named.results, named.accessed, named.reads), ([], [], [1]))

    def test_what_is_told_is_an_outcome(self):
        outcome = carry_out(flow_of("source", [0], [[]]), Future([[5]], [], [0]))
        self.assertIsInstance(outcome, Outcome)
        self.assertIsInstance(outcome.accessed[0], tuple)


class FurtherValuesTest(FutureCase):
    def test_they_come_instead_of_those_that_the_source_has(self):
        flow = flow_of("source", [0], [[1, 2, 3]])
        flow.pull(0)
        results = [[8], [9], None, None]
        self.assert_outcome(flow, Future([[8, 9]], [], [0] * 4), results, [(0, 1), (0, 2)], [0])
        self.assert_outcome(flow, Future([[]], [], [0]), [None], [], [0])
        self.assertEqual(pulled(flow, 0), [[2], [3]])

    def test_what_is_produced_stays(self):
        flow = flow_of("source", [0, 0], [[1, 2, 3]])
        pulled(flow, 0, 2)
        future = Future([[8]], [], [1, 1, 1, 1])
        self.assert_outcome(flow, future, [[1], [2], [8], None], [(0, 0), (0, 1), (0, 2)], [0])

    def test_an_ended_source_yields_none(self):
        flow = flow_of("source", [0, 0], [[1]])
        pulled(flow, 0)
        self.assert_outcome(flow, Future([[8, 9]], [], [1, 1]), [[1], None], [(0, 0)], [])

    def test_a_closed_source_yields_none(self):
        flow = flow_of("source, source", [0, 1], [[1], [2]])
        flow.close(0)
        self.assert_outcome(flow, Future([[8, 9], [7]], [], [0, 1]), [None, [7]], [(1, 0)], [1])

    def test_several_sources(self):
        flow = flow_of("source, source, zip 1 0", [2], [[1], [2]])
        future = Future([[5, 6], [7, 8]], [], [0, 0])
        accessed = [(1, 0), (0, 0), (2, 0), (1, 1), (0, 1), (2, 1)]
        self.assert_outcome(flow, future, [[7, 5], [8, 6]], accessed, [1, 0])


class TapeTest(FutureCase):
    def test_marks_in_order_and_one_more_behind_them(self):
        flow = flow_of("source, filter 0", [1], [[]], [(0, 0, 0)])
        further = [[0, 1, 2, 3, 4, 5]]
        outcome = carry_out(flow, Future(further, [([True, False, False], True)], [0] * 5))
        self.assertEqual(outcome.results, [[0], [3], [4], [5], None])
        outcome = carry_out(flow, Future(further, [([True, True], False)], [0] * 3))
        self.assertEqual(outcome.results, [[0], [1], None])
        outcome = carry_out(flow, Future(further, [([], True)], [0] * 2))
        self.assertEqual(outcome.results, [[0], [1]])

    def test_further_calls_only(self):
        flow = flow_of("source, map 0", [1, 1], [[5]], [(2, 0, 0)])
        flow.pull(0)
        outcome = carry_out(flow, Future([[7]], [([100], 200)], [1, 1]))
        self.assertEqual(outcome.results, [[10], [107]])

    def test_a_map_answers_with_the_sum_and_the_mark(self):
        flow = flow_of("source, window 2 0, map 1", [2], [[]], [(0, 0, 0)])
        future = Future([[1000, 2000, -3000]], [([1000000], -1000000)], [0, 0])
        self.assertEqual(carry_out(flow, future).results, [[1003000], [-1001000]])

    def test_a_scan_answers_with_the_sum_of_its_row_and_the_mark(self):
        flow = flow_of("source, scan 500 0", [1], [[]], [(9, 9, 9)])
        future = Future([[1, 2, 3]], [([10, 20], 30)], [0, 0, 0])
        outcome = carry_out(flow, future)
        self.assertEqual(outcome.results, [[11], [22], [33]])
        self.assertEqual(outcome.accessed, [(0, 0), (1, 0), (0, 1), (1, 1), (0, 2), (1, 2)])

    def test_a_while_goes_on_and_ends(self):
        flow = flow_of("source, while 0", [1], [[]], [(0, 0, 0)])
        future = Future([[1, 2, 3, 4]], [([True, True], False)], [0, 0, 0, 0])
        accessed = [(0, 0), (1, 0), (0, 1), (1, 1), (0, 2)]
        self.assert_outcome(flow, future, [[1], [2], None, None], accessed, [0])

    def test_a_merge_chooses(self):
        flow = flow_of("source, source, merge 0 1", [2], [[], []], [(0, 0, 0)])
        future = Future([[1, 2], [3, 4]], [([False, True], False)], [0] * 5)
        self.assertEqual(carry_out(flow, future).results, [[3], [1], [4], [2], None])

    def test_a_merge_uses_no_mark_when_it_does_not_call(self):
        flow = flow_of("source, source, merge 0 1, filter 2", [3], [[], []], [(0, 0, 0), (0, 0, 0)])
        future = Future([[], [3, 4]], [([], True), ([False], True)], [0, 0])
        self.assertEqual(carry_out(flow, future).results, [[4], None])

    def test_several_tapes(self):
        flow = flow_of("source, map 0, source, map 2, zip 3 1", [4], [[], []], [(0, 0, 0)] * 2)
        future = Future([[1, 2], [3, 4]], [([], 10), ([20], 30)], [0, 0])
        self.assertEqual(carry_out(flow, future).results, [[23, 11], [34, 12]])


class AccessTest(FutureCase):
    def test_no_doubles_in_the_order_of_the_first_access(self):
        flow = flow_of("source, window 2 0, zip 0 1", [2, 0, 1], [[]])
        future = Future([[1, 2, 3]], [], [0, 1, 0, 1, 1, 2])
        accessed = [(0, 0), (0, 1), (1, 0), (2, 0), (0, 2), (1, 1), (2, 1)]
        results = [[1, 1, 2], [1], [2, 2, 3], [2], [3], [1, 2]]
        self.assert_outcome(flow, future, results, accessed, [0])

    def test_reads_without_doubles_in_the_order_of_the_first_one(self):
        flow = flow_of("source, source, source", [1, 0, 2], [[], [], []])
        future = Future([[1], [], [3, 4]], [], [2, 0, 2, 1, 1, 0])
        self.assertEqual(carry_out(flow, future).reads, [2, 1, 0])

    def test_what_was_accessed_and_read_before_does_not_count(self):
        flow = flow_of("source", [0], [[1, 2]])
        flow.pull(0)
        self.assert_outcome(flow, Future([[5]], [], []), [], [], [])
        self.assert_outcome(flow, Future([[5]], [], [0]), [[5]], [(0, 1)], [0])

    def test_pulls_of_readers_that_are_not_active(self):
        flow = flow_of("source", [0, 0], [[1, 2]])
        flow.close(0)
        self.assert_outcome(flow, Future([[5]], [], [0, 0]), [None, None], [], [])

    def test_it_settles_as_pulls_do(self):
        flow = flow_of("source, take 1 0", [1, 1], [[1, 2]])
        steps_of(flow, 0, 2)
        self.assertEqual(flow.sources(), [(0, 1, "idle")])
        self.assert_outcome(flow, Future([[5]], [], [0, 0, 1]), [[1], None, [1]], [(1, 0)], [])
        self.assertEqual(flow.sources(), [(0, 1, "idle")])


class NothingChangesTest(FutureCase):
    def test_the_flow_goes_on_as_if_nothing_had_been(self):
        for seed in range(100):
            rng, other = random.Random(seed), random.Random(seed)
            flow, untouched = drawn_flow(rng), drawn_flow(other)
            for _, _ in zip(walk(rng, flow, 30), walk(other, untouched, 30)):
                future = drawn_future(random.Random(seed), flow)
                parts = repr((future.further, future.tapes, future.pulls))
                carry_out(flow, future)
                self.assertEqual(repr((future.further, future.tapes, future.pulls)), parts)
                self.assertEqual(all_told(flow), all_told(untouched))

    def test_a_future_with_what_comes_anyway(self):
        """With the answers that the rules give, carrying out is pulling."""
        for seed in range(50):
            rng = random.Random(seed)
            values = [rng.randint(-9, 9) for _ in range(9)]
            flow = flow_of("source, filter 0, drop 1 1, zip 1 2", [3, 1], [values], [(1, 0, 0)])
            flow.pull(rng.randint(0, 1))
            read = len(flow.produced()[0])
            calls = len(flow.calls())
            marks = [value % 3 != 0 for value in values[calls:]]
            outcome = carry_out(flow, Future([values[read:]], [(marks, False)], [0, 1, 1, 0]))
            self.assertEqual(outcome.results, [flow.pull(0), flow.pull(1), flow.pull(1), flow.pull(0)])


class FutureErrorTest(FutureCase):
    def setUp(self):
        text = "source, source, map 0, filter 1, while 3, scan 1 2, merge 3 4"
        self.flow = flow_of(text, [6, 5], [[1], [2]], [(0, 0, 0)] * 5)
        self.tapes = [([], 0), ([], True), ([], False), ([], 1), ([], True)]

    def assert_wrong(self, reason, further, tapes, pulls):
        told = all_told(self.flow)
        future = Future(further, tapes, pulls)
        self.assert_reason(reason, carry_out, self.flow, future)
        self.assertFalse(is_need_of_row(self.flow, 0, 0, future))
        self.assertFalse(is_need_of_source(self.flow, 0, future))
        self.assertEqual(all_told(self.flow), told)

    def assert_right(self, further, tapes, pulls):
        carry_out(self.flow, Future(further, tapes, pulls))

    def with_tape(self, at, tape):
        return self.tapes[:at] + [tape] + self.tapes[at + 1:]

    def test_one_list_for_each_source(self):
        self.assert_right([[], []], self.tapes, [])
        for wrong in ([], [[]], [[], [], []], [[], None], [1, []], [[], (1,)]):
            self.assert_wrong(VALUES, wrong, self.tapes, [])

    def test_how_many_further_values(self):
        self.assert_right([[1] * 2000, [2] * 2000], self.tapes, [0])
        self.assert_wrong(VALUES, [[1] * 2001, []], self.tapes, [])
        self.assert_wrong(VALUES, [[], [1] * 2001], self.tapes, [])

    def test_bounds_of_further_values(self):
        self.assert_right([[-1000000], [1000000]], self.tapes, [0])
        for wrong in (-1000001, 1000001, True, False, None, "1", 1.0, [1]):
            self.assert_wrong(VALUES, [[0, wrong], []], self.tapes, [])
            self.assert_wrong(VALUES, [[], [wrong]], self.tapes, [])

    def test_further_values_are_looked_at_for_ended_and_closed_sources_too(self):
        self.flow.close(0)
        self.flow.close(1)
        self.assert_wrong(VALUES, [[1000001], []], self.tapes, [])

    def test_one_tape_for_each_calling_node(self):
        self.assert_wrong(TAPES, [[], []], [], [])
        self.assert_wrong(TAPES, [[], []], self.tapes[:4], [])
        self.assert_wrong(TAPES, [[], []], self.tapes + [([], True)], [])

    def test_tapes_of_a_wrong_form(self):
        for wrong in ((), ([],), ([], 0, 0), [[], 0], None, 0, "", ((), 0), (0, 0), (None, 0), ([[]], 0), ([], [])):
            self.assert_wrong(TAPES, [[], []], self.with_tape(0, wrong), [])
        for wrong in (([],), ([], True, True), [[], True], ((), True), (True, True), ([[]], True), ([], [])):
            self.assert_wrong(TAPES, [[], []], self.with_tape(4, wrong), [])

    def test_marks_that_are_integers(self):
        for at in (0, 3):
            for right in (-1000000, 0, 1000000):
                self.assert_right([[], []], self.with_tape(at, ([right], right)), [])
            for wrong in (True, False, None, -1000001, 1000001, "1", 1.0):
                self.assert_wrong(TAPES, [[], []], self.with_tape(at, ([], wrong)), [])
                self.assert_wrong(TAPES, [[], []], self.with_tape(at, ([0, wrong], 0)), [])

    def test_marks_that_are_bools(self):
        for at in (1, 2, 4):
            for right in (True, False):
                self.assert_right([[], []], self.with_tape(at, ([right], right)), [])
            for wrong in (0, 1, None, "True", 1.0):
                self.assert_wrong(TAPES, [[], []], self.with_tape(at, ([], wrong)), [])
                self.assert_wrong(TAPES, [[], []], self.with_tape(at, ([True, wrong], True)), [])

    def test_many_marks(self):
        self.assert_right([[1] * 10, []], self.with_tape(1, ([False] * 3000, True)), [0])

    def test_numbers_of_readers(self):
        self.assert_right([[], []], self.tapes, [0, 1, 0])
        for wrong in (2, 3, 12, -1, True, False, None, "0", [0]):
            self.assert_wrong(PULLS, [[], []], self.tapes, [wrong])
            self.assert_wrong(PULLS, [[], []], self.tapes, [0, wrong])

    def test_how_many_pulls(self):
        self.assert_right([[], []], self.tapes, [0] * 2000)
        self.assert_wrong(PULLS, [[], []], self.tapes, [0] * 2001)

    def test_values_ahead_of_tapes_ahead_of_pulls(self):
        self.assert_wrong(VALUES, [], [], [2])
        self.assert_wrong(VALUES, [[1] * 2001, []], self.tapes[:4], [0] * 2001)
        self.assert_wrong(TAPES, [[], []], [], [2])
        self.assert_wrong(TAPES, [[], []], self.with_tape(2, ([], 1)), [0] * 2001)

    def test_two_thousand_pulls_and_values(self):
        flow = flow_of("source", [0], [[]])
        outcome = carry_out(flow, Future([list(range(2000))], [], [0] * 2000))
        self.assertEqual(outcome.results, [[k] for k in range(2000)])


if __name__ == "__main__":
    unittest.main()
