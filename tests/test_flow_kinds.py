"""Each of the ten kinds of node in a flow: its steps, its firing, its measures, and what it accesses."""

import unittest

from leastpull.futures import Future, carry_out
from flowing import FlowCase, flow_of, pulled, steps_of

READ = ("read", 0)
FIRE = ("fire", 1)


class KindCase(FlowCase):
    def assert_accessed(self, flow, tapes, pulls, accessed):
        """Carried out with no further values, the pulls of reader 0 access these rows."""
        none = [[] for _ in flow.sources()]
        self.assertEqual(carry_out(flow, Future(none, tapes, [0] * pulls)).accessed, accessed)


class SourceTest(KindCase):
    def test_it_is_read_row_by_row(self):
        flow = flow_of("source", [0], [[7, -8]])
        self.assertEqual(flow.positions(), [[]])
        self.assert_measures(flow, [None], [None], [[]])
        self.assertEqual(flow.next_step(0), READ)
        self.assertEqual(steps_of(flow, 0, 2), [READ, ("ready",)])
        self.assertEqual(flow.produced(), [[[7]]])
        self.assertEqual(pulled(flow, 0), [[7], [-8]])

    def test_it_ends_when_it_is_read_and_has_no_more_values(self):
        flow = flow_of("source", [0], [[7]])
        flow.pull(0)
        self.assertEqual(flow.remaining(), [None])
        self.assertEqual(steps_of(flow, 0, 2), [READ, ("exhausted",)])
        self.assertEqual(flow.sources(), [(0, 2, "ended")])
        self.assert_measures(flow, [0], [0], [[]])
        self.assertEqual(flow.readers(), [(0, 1, True)])
        self.assertIsNone(flow.pull(0))
        self.assertEqual(flow.readers(), [(0, 1, False)])
        self.assertEqual(flow.events(), [READ, READ])

    def test_a_reader_accesses_what_it_receives(self):
        flow = flow_of("source", [0], [[7, 8]])
        steps_of(flow, 0, 1)
        self.assert_accessed(flow, [], 2, [(0, 0)])


class MapTest(KindCase):
    def test_it_produces_the_answer(self):
        flow = flow_of("source, map 0", [1], [[5, -3]], [(2, 1, 1)])
        self.assert_measures(flow, [None, None], [None, None], [[], [None]])
        self.assertEqual(steps_of(flow, 0, 3), [READ, FIRE, ("ready",)])
        self.assertEqual(flow.produced(), [[[5]], [[11]]])
        self.assertEqual(flow.positions(), [[], [1]])
        self.assertEqual(flow.calls(), [(1, (0,))])
        self.assertEqual(pulled(flow, 0), [[11], [996]])
        self.assertEqual(flow.calls(), [(1, (0,)), (1, (1,))])

    def test_its_measures_over_a_take(self):
        flow = flow_of("source, take 3 0, map 1", [2], [[5, 6, 7, 8]], [(1, 0, 0)])
        self.assert_measures(flow, [None, 3, 3], [3, 3, 3], [[], [3], [3]])
        flow.pull(0)
        self.assert_measures(flow, [None, 2, 2], [2, 2, 2], [[], [2], [2]])

    def test_what_it_accesses(self):
        flow = flow_of("source, map 0", [1], [[5]], [(1, 0, 0)])
        flow.step(0)
        self.assert_accessed(flow, [([], 0)], 1, [(0, 0), (1, 0)])


class FilterTest(KindCase):
    def test_it_produces_the_row_if_the_answer_is_true(self):
        flow = flow_of("source, filter 0", [1], [[3, -7]], [(1, 0, 0)])
        self.assertEqual(steps_of(flow, 0, 2), [READ, FIRE])
        self.assertEqual(flow.produced(), [[[3]], []])
        self.assertEqual(flow.positions(), [[], [1]])
        self.assertEqual(steps_of(flow, 0, 3), [READ, FIRE, ("ready",)])
        self.assertEqual(flow.produced(), [[[3], [-7]], [[-7]]])
        self.assertEqual(flow.positions(), [[], [2]])
        self.assertEqual(flow.calls(), [(1, (0,)), (1, (1,))])

    def test_it_may_look_at_all_that_is_available(self):
        flow = flow_of("source, take 5 0, filter 1, take 2 2", [3], [[3, 1, 1, 1, 1, 1]], [(1, 0, 0)])
        self.assert_measures(flow, [None, 5, 5, 2], [5, 5, 2, 2], [[], [5], [5], [2]])
        steps_of(flow, 0, 3)
        self.assertEqual(flow.produced()[2], [])
        self.assert_measures(flow, [None, 4, 4, 2], [4, 4, 2, 2], [[], [4], [4], [2]])
        flow.pull(0)
        self.assert_measures(flow, [None, 3, 3, 1], [3, 3, 1, 1], [[], [3], [3], [1]])

    def test_it_looks_at_nothing_when_it_is_not_in_demand(self):
        flow = flow_of("source, filter 0, take 1 1", [2], [[1, 1]], [(1, 0, 0)])
        self.assert_measures(flow, [None, None, 1], [None, 1, 1], [[], [None], [1]])
        flow.pull(0)
        self.assert_measures(flow, [None, None, 0], [0, 0, 0], [[], [0], [0]])

    def test_what_it_accesses(self):
        flow = flow_of("source, filter 0", [0, 1], [[3, 1]], [(1, 0, 0)])
        pulled(flow, 0, 2)
        flow.close(0)
        none = Future([[]], [([False], True)], [1])
        self.assertEqual(carry_out(flow, none).accessed, [(0, 0), (0, 1), (1, 0)])


class WhileTest(KindCase):
    def test_it_ends_when_its_function_answers_false(self):
        flow = flow_of("source, while 0", [1], [[1, 3, 1]], [(1, 0, 0)])
        self.assert_measures(flow, [None, None], [None, None], [[], [None]])
        self.assertEqual(flow.pull(0), [1])
        self.assertEqual(steps_of(flow, 0, 3), [READ, FIRE, ("exhausted",)])
        self.assertEqual(flow.produced(), [[[1], [3]], [[1]]])
        self.assertEqual(flow.positions(), [[], [2]])
        self.assert_measures(flow, [None, 0], [0, 0], [[], [0]])
        self.assertEqual(flow.sources(), [(0, 2, "idle")])
        self.assertIsNone(flow.pull(0))
        self.assertEqual(flow.events(), [READ, READ, ("close", 0)])
        self.assertEqual(flow.calls(), [(1, (0,)), (1, (1,))])

    def test_it_ends_with_its_input(self):
        flow = flow_of("source, while 0", [1], [[1]], [(1, 0, 0)])
        self.assertEqual(pulled(flow, 0), [[1]])
        self.assert_measures(flow, [0, 0], [0, 0], [[], [0]])

    def test_its_look_is_its_demand(self):
        flow = flow_of("source, take 5 0, while 1, take 2 2", [3], [[1, 1, 1]], [(1, 0, 0)])
        self.assert_measures(flow, [None, 5, 5, 2], [2, 2, 2, 2], [[], [2], [2], [2]])

    def test_it_accesses_the_row_at_which_it_ends(self):
        flow = flow_of("source, while 0", [1], [[1]], [(1, 0, 0)])
        flow.step(0)
        self.assert_accessed(flow, [([False], True)], 1, [(0, 0)])
        self.assert_accessed(flow, [([], True)], 1, [(0, 0), (1, 0)])


class TakeTest(KindCase):
    def test_it_produces_the_first_rows_and_reads_no_more(self):
        flow = flow_of("source, take 2 0", [1], [[5, 6, 7]])
        self.assert_measures(flow, [None, 2], [2, 2], [[], [2]])
        self.assertEqual(steps_of(flow, 0, 3), [READ, FIRE, ("ready",)])
        self.assertEqual(flow.positions(), [[], [1]])
        self.assert_measures(flow, [None, 1], [1, 1], [[], [1]])
        self.assertEqual(pulled(flow, 0), [[5], [6]])
        self.assertEqual(flow.events(), [READ, READ, ("close", 0)])

    def test_it_may_have_less_than_n_rows(self):
        flow = flow_of("source, take 3 0, take 5 1", [2], [[5]])
        self.assert_measures(flow, [None, 3, 3], [3, 3, 3], [[], [3], [3]])
        self.assertEqual(pulled(flow, 0), [[5]])
        self.assert_measures(flow, [0, 0, 0], [0, 0, 0], [[], [0], [0]])

    def test_what_it_accesses(self):
        flow = flow_of("source, take 1 0", [1], [[5]])
        flow.step(0)
        self.assert_accessed(flow, [], 1, [(0, 0), (1, 0)])


class DropTest(KindCase):
    def test_it_reads_what_it_skips(self):
        flow = flow_of("source, drop 2 0", [1], [[5, 6, 7, 8]])
        self.assertEqual(flow.positions(), [[], [2]])
        self.assert_measures(flow, [None, None], [None, None], [[], [None]])
        self.assertEqual(steps_of(flow, 0, 5), [READ, READ, READ, FIRE, ("ready",)])
        self.assertEqual(flow.produced(), [[[5], [6], [7]], [[7]]])
        self.assertEqual(flow.positions(), [[], [3]])

    def test_what_it_skips_is_not_kept_if_nobody_else_needs_it(self):
        flow = flow_of("source, drop 2 0, take 1 1", [2], [[5, 6, 7, 8]])
        self.assert_measures(flow, [None, None, 1], [3, 1, 1], [[], [1], [1]])
        kept = []
        for _ in range(3):
            flow.step(0)
            kept.append(flow.kept()[0])
        self.assertEqual(kept, [[], [], [2]])

    def test_what_it_skips_is_kept_for_others(self):
        flow = flow_of("source, drop 2 0", [1, 0], [[5, 6, 7, 8]])
        flow.pull(0)
        self.assertEqual(flow.kept(), [[0, 1, 2], []])

    def test_its_measures_over_less_than_it_skips(self):
        flow = flow_of("source, take 3 0, drop 5 1", [2], [[5, 6, 7, 8]])
        self.assert_measures(flow, [None, 3, 0], [0, 0, 0], [[], [0], [0]])
        self.assertEqual(flow.positions(), [[], [0], [5]])
        self.assertEqual(flow.next_step(0), ("exhausted",))

    def test_what_it_accesses(self):
        flow = flow_of("source, drop 2 0", [1], [[5, 6, 7, 8]])
        steps_of(flow, 0, 3)
        self.assert_accessed(flow, [], 1, [(0, 2), (1, 0)])


class WindowTest(KindCase):
    def test_it_requires_its_last_row(self):
        flow = flow_of("source, window 3 0", [1], [[5, 6, 7, 8]])
        self.assertEqual(flow.positions(), [[], [0]])
        self.assertEqual(steps_of(flow, 0, 5), [READ, READ, READ, FIRE, ("ready",)])
        self.assertEqual(flow.produced()[1], [[5, 6, 7]])
        self.assertEqual(flow.positions(), [[], [1]])

    def test_its_last_row(self):
        flow = flow_of("source, take 4 0, window 3 1", [2], [[5, 6, 7, 8, 9]])
        self.assert_measures(flow, [None, 4, 2], [4, 4, 2], [[], [4], [4]])
        self.assertEqual(flow.pull(0), [5, 6, 7])
        self.assert_measures(flow, [None, 1, 1], [1, 1, 1], [[], [1], [3]])
        self.assertEqual(flow.kept(), [[], [1, 2], []])
        self.assertEqual(steps_of(flow, 0, 2), [READ, FIRE])
        self.assertEqual(flow.kept(), [[], [1, 2, 3], []])
        self.assertEqual(flow.pull(0), [6, 7, 8])
        self.assert_measures(flow, [None, 0, 0], [0, 0, 0], [[], [0], [0]])
        self.assertEqual(flow.kept(), [[], [], []])
        self.assertEqual(flow.events(), [READ] * 4 + [("close", 0)])

    def test_the_source_ends_behind_its_last_row(self):
        flow = flow_of("source, window 3 0", [1], [[5, 6, 7]])
        flow.pull(0)
        self.assert_measures(flow, [None, None], [None, None], [[], [None]])
        self.assertEqual(flow.kept(), [[1, 2], []])
        self.assertEqual(steps_of(flow, 0, 2), [READ, ("exhausted",)])
        self.assert_measures(flow, [0, 0], [0, 0], [[], [0]])
        self.assertEqual(flow.kept(), [[], []])

    def test_its_look_is_its_demand_and_n_less_1(self):
        flow = flow_of("source, window 3 0, take 2 1", [2], [[5, 6, 7, 8, 9]])
        self.assert_measures(flow, [None, None, 2], [4, 2, 2], [[], [4], [2]])

    def test_what_it_accesses(self):
        flow = flow_of("source, window 2 0", [1], [[5, 6, 7]])
        steps_of(flow, 0, 2)
        self.assert_accessed(flow, [], 1, [(0, 0), (0, 1), (1, 0)])


class ScanTest(KindCase):
    def test_it_produces_the_answer_for_the_previous_one(self):
        flow = flow_of("source, scan 10 0", [1], [[1, 2, 3]], [(2, 1, 1)])
        self.assert_measures(flow, [None, None], [None, None], [[], [None]])
        self.assertEqual(steps_of(flow, 0, 3), [READ, FIRE, ("ready",)])
        self.assertEqual(flow.produced()[1], [[21]])
        self.assertEqual(flow.positions(), [[], [1]])
        self.assertEqual(pulled(flow, 0), [[21], [45], [95]])
        self.assertEqual(flow.calls(), [(1, (0,)), (1, (1,)), (1, (2,))])

    def test_its_own_last_row_is_kept(self):
        flow = flow_of("source, scan 10 0, take 2 1", [2], [[1, 2, 3]], [(2, 1, 1)])
        self.assertEqual(flow.kept(), [[], [], []])
        flow.pull(0)
        self.assert_measures(flow, [None, None, 1], [1, 1, 1], [[], [1], [1]])
        self.assertEqual(flow.kept(), [[], [0], []])
        self.assertEqual(flow.explain(1, 0), ([1, 2], 0))
        flow.pull(0)
        self.assertEqual(flow.kept(), [[], [], []])

    def test_only_the_last_row_is_kept_for_itself(self):
        flow = flow_of("source, scan 10 0", [1], [[1, 2, 3]], [(2, 1, 1)])
        pulled(flow, 0, 2)
        self.assertEqual(flow.kept(), [[], [1]])
        self.assertEqual(flow.explain(1, 1), ([1], 0))
        self.assertIsNone(flow.explain(1, 0))

    def test_it_accesses_the_input_and_then_its_own_last_row(self):
        flow = flow_of("source, scan 10 0", [0, 1], [[1, 2]], [(2, 1, 1)])
        pulled(flow, 0, 2)
        flow.close(0)
        tapes = [([], 0)]
        outcome = carry_out(flow, Future([[]], tapes, [1, 1]))
        self.assertEqual(outcome.accessed, [(0, 0), (1, 0), (0, 1), (1, 1)])
        steps_of(flow, 1, 1)
        outcome = carry_out(flow, Future([[]], tapes, [1, 1]))
        self.assertEqual(outcome.accessed, [(1, 0), (0, 1), (1, 1)])

    def test_the_input_ahead_of_the_own_last_row(self):
        flow = flow_of("source, scan 10 0, drop 1 1", [0, 2], [[1, 2]], [(2, 1, 1)])
        pulled(flow, 0, 2)
        self.assertEqual(steps_of(flow, 1, 1), [FIRE])
        outcome = carry_out(flow, Future([[]], [([], 0)], [1]))
        self.assertEqual(outcome.accessed, [(0, 1), (1, 0), (1, 1), (2, 0)])


class ZipTest(KindCase):
    def test_it_produces_both_rows_as_one(self):
        flow = flow_of("source, source, zip 0 1", [2], [[1, 2], [3]])
        self.assert_measures(flow, [None] * 3, [None] * 3, [[], [], [None, None]])
        self.assertEqual(steps_of(flow, 0, 4), [READ, ("read", 1), ("fire", 2), ("ready",)])
        self.assertEqual(flow.produced()[2], [[1, 3]])
        self.assertEqual(flow.positions(), [[], [], [1, 1]])

    def test_it_is_exhausted_with_one_input(self):
        flow = flow_of("source, source, zip 0 1", [2], [[1, 2], [3]])
        self.assertEqual(pulled(flow, 0), [[1, 3]])
        self.assertEqual(flow.sources(), [(0, 2, "closed"), (1, 2, "ended")])
        self.assertEqual(flow.events()[-3:], [READ, ("read", 1), ("close", 0)])

    def test_the_lesser_input_bounds_both(self):
        flow = flow_of("source, source, take 2 1, zip 0 2", [3], [[1, 2, 3], [4, 5, 6]])
        self.assert_measures(flow, [None, None, 2, 2], [2, 2, 2, 2], [[], [], [2], [2, 2]])

    def test_it_accesses_the_first_input_first(self):
        flow = flow_of("source, source, zip 1 0", [2], [[1], [3]])
        self.assertEqual(steps_of(flow, 0, 2), [("read", 1), READ])
        self.assert_accessed(flow, [], 1, [(1, 0), (0, 0), (2, 0)])

    def test_both_inputs_the_same_node(self):
        flow = flow_of("source, zip 0 0", [1], [[1, 2]])
        self.assertEqual(steps_of(flow, 0, 3), [READ, FIRE, ("ready",)])
        self.assertEqual(flow.positions(), [[], [1, 1]])
        self.assertEqual(pulled(flow, 0), [[1, 1], [2, 2]])
        self.assertEqual(flow.events(), [READ] * 3)

    def test_both_inputs_the_same_node_accessed_once(self):
        flow = flow_of("source, zip 0 0", [1], [[1, 2]])
        steps_of(flow, 0, 1)
        self.assert_accessed(flow, [], 1, [(0, 0), (1, 0)])


class MergeTest(KindCase):
    two = "source, source, merge 0 1"

    def test_it_produces_one_row_and_the_other_waits(self):
        flow = flow_of(self.two, [2], [[5, 6], [3, 9]], [(1, 1, 0)])
        self.assert_measures(flow, [None] * 3, [None] * 3, [[], [], [None, None]])
        self.assertEqual(steps_of(flow, 0, 4), [READ, ("read", 1), ("fire", 2), ("ready",)])
        self.assertEqual(flow.produced()[2], [[3]])
        self.assertEqual(flow.positions(), [[], [], [0, 1]])
        self.assertEqual(flow.pull(0), [3])
        self.assertEqual(steps_of(flow, 0, 2), [("read", 1), ("fire", 2)])
        self.assertEqual(flow.produced()[2], [[3], [5]])
        self.assertEqual(flow.positions(), [[], [], [1, 1]])
        self.assertEqual(flow.calls(), [(2, (0, 0)), (2, (0, 1))])

    def test_the_second_input_is_exhausted_first(self):
        flow = flow_of(self.two, [2], [[5, 6], [3]], [(1, 1, 0)])
        self.assertEqual(flow.pull(0), [3])
        self.assertEqual(steps_of(flow, 0, 2), [("read", 1), ("fire", 2)])
        self.assertEqual(flow.positions(), [[], [], [1, 1]])
        self.assertEqual(pulled(flow, 0), [[5], [6]])
        self.assertEqual(flow.calls(), [(2, (0, 0))])
        self.assertEqual(flow.sources(), [(0, 3, "ended"), (1, 2, "ended")])

    def test_the_first_input_is_exhausted_first(self):
        flow = flow_of(self.two, [2], [[5], [7, 2]], [(1, 1, 0)])
        self.assertEqual(flow.pull(0), [5])
        self.assertEqual(steps_of(flow, 0, 2), [READ, ("fire", 2)])
        self.assertEqual(flow.positions(), [[], [], [1, 1]])
        self.assertEqual(pulled(flow, 0), [[7], [2]])
        self.assertEqual(flow.calls(), [(2, (0, 0))])

    def test_an_input_without_rows(self):
        flow = flow_of("source, take 0 0, source, merge 1 2", [3], [[5], [7, 2]], [(1, 1, 0)])
        self.assertEqual(flow.sources(), [(0, 0, "closed"), (2, 0, "open")])
        self.assertEqual(steps_of(flow, 0, 3), [("read", 2), ("fire", 3), ("ready",)])
        self.assertEqual(pulled(flow, 0), [[7], [2]])
        self.assertEqual(flow.calls(), [])

    def test_its_measures_over_takes(self):
        text = "source, source, take 2 0, take 3 1, merge 2 3"
        flow = flow_of(text, [4], [[1, 2, 3], [4, 5, 6]], [(0, 0, 0)])
        self.assert_measures(flow, [None, None, 2, 3, 5], [2, 3, 2, 3, 5], [[], [], [2], [3], [2, 3]])
        self.assertEqual(pulled(flow, 0, 2), [[1], [2]])
        self.assert_measures(flow, [None, None, 0, 2, 3], [0, 2, 0, 2, 3], [[], [], [0], [2], [0, 3]])
        flow = flow_of(text + ", take 2 4", [5], [[1, 2, 3], [4, 5, 6]], [(0, 0, 0)])
        self.assert_measures(flow, [None, None, 2, 3, 5, 2], [2, 2, 2, 2, 2, 2], [[], [], [2], [2], [2, 2], [2]])

    def test_it_accesses_both_rows_if_it_calls(self):
        flow = flow_of("source, source, merge 1 0", [2], [[1], [3]], [(1, 1, 0)])
        steps_of(flow, 0, 2)
        self.assert_accessed(flow, [([], False)], 1, [(1, 0), (0, 0), (2, 0)])
        self.assert_accessed(flow, [([], True)], 1, [(1, 0), (0, 0), (2, 0)])

    def test_it_accesses_one_row_if_the_other_input_is_exhausted(self):
        flow = flow_of(self.two, [2], [[], [3]], [(1, 1, 0)])
        self.assertEqual(steps_of(flow, 0, 2), [READ, ("read", 1)])
        self.assert_accessed(flow, [([], True)], 1, [(1, 0), (2, 0)])

    def test_both_inputs_the_same_node(self):
        flow = flow_of("source, merge 0 0", [1], [[1, 2]], [(1, 1, 0)])
        self.assertEqual(steps_of(flow, 0, 3), [READ, FIRE, ("ready",)])
        self.assertEqual(flow.positions(), [[], [1, 0]])
        self.assertEqual(pulled(flow, 0), [[1], [1], [2], [2]])
        self.assertEqual(flow.calls(), [(1, (0, 0)), (1, (1, 0)), (1, (1, 1))])


class OrderTest(KindCase):
    def test_a_firing_goes_ahead_of_a_read(self):
        flow = flow_of("source, source, map 1, zip 0 2", [3, 1], [[1], [2]], [(1, 0, 0)])
        flow.pull(1)
        self.assertEqual(steps_of(flow, 0, 3), [("fire", 2), READ, ("fire", 3)])

    def test_of_several_reads_that_of_the_first_input(self):
        flow = flow_of("source, source, map 0, zip 1 2", [3], [[1], [2]], [(1, 0, 0)])
        self.assertEqual(steps_of(flow, 0, 4), [("read", 1), READ, ("fire", 2), ("fire", 3)])

    def test_of_several_firings_that_of_the_first_input(self):
        text = "source, map 0, map 0, zip {}"
        for order, first in (("1 2", 1), ("2 1", 2)):
            flow = flow_of(text.format(order), [3], [[1]], [(1, 0, 0), (1, 0, 0)])
            self.assertEqual(steps_of(flow, 0, 4), [READ, ("fire", first), ("fire", 3 - first), ("fire", 3)])

    def test_a_firing_deep_in_the_second_input(self):
        text = "source, source, source, map 2, zip 1 3, zip 0 4"
        flow = flow_of(text, [5, 2], [[1], [2], [3]], [(1, 0, 0)])
        flow.pull(1)
        self.assertEqual(steps_of(flow, 0, 5), [("fire", 3), READ, ("read", 1), ("fire", 4), ("fire", 5)])

    def test_what_is_produced_is_not_asked_for(self):
        flow = flow_of("source, source, zip 0 1", [2, 0], [[1], [2]])
        flow.pull(1)
        self.assertEqual(steps_of(flow, 0, 2), [("read", 1), ("fire", 2)])

    def test_the_step_of_a_ready_reader(self):
        flow = flow_of("source, map 0", [1, 1], [[1, 2]], [(1, 0, 0)])
        flow.pull(0)
        self.assertEqual(flow.next_step(1), ("ready",))
        self.assertEqual(flow.next_step(0), READ)


if __name__ == "__main__":
    unittest.main()
