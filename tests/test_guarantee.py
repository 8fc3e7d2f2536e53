"""[0.1] Overview and [0.3] The guarantee: what the parts say together, from one placement to the reads of its store."""

import unittest

from causeloops.benches import (Bench, is_short, placement_text, read_placement, read_run, run_text, shortened)
from causeloops.loops import judge_loop, loop_holds
from causeloops.needs import is_enough, is_plan, lacking, least_plan, needed
from causeloops.plans import is_right, judge_plan, plan_holds
from causeloops.ranks import numbers, whole
from causeloops.runs import judge_run
from causeloops.standins import price
from causeloops.views import history, judge_history, replayed, run_of
from tests import oracle, oracle_runs
from tests.deeds import drawn_store
from tests.draws import plans_of, small_placements, without_edges
from tests.samples import Numbers


class GuaranteeTests(unittest.TestCase):
    def test_there_is_one_least_plan(self):
        for placement in small_placements():
            least = least_plan(placement)
            self.assertIs(is_right(placement, least), True)
            for place, row in enumerate(least):
                self.assertEqual(needed(placement, place), row)
                for edge in row:
                    poorer = without_edges(placement, least, [(place, edge)])
                    if is_plan(placement, poorer):
                        self.assertEqual(lacking(placement, poorer), ((place, edge),))
                        self.assertIs(is_right(placement, poorer), False)

    def test_a_loop_or_a_table_for_each_place_and_edge(self):
        for placement in small_placements():
            for place, edge in oracle.questions(placement):
                found = judge_loop(placement, place, edge)
                self.assertIs(loop_holds(placement, place, edge, found), True)
                self.assertEqual(found[0] == "loop", edge in needed(placement, place))

    def test_a_plan_is_right_exactly_if_it_is_enough(self):
        draw = Numbers(141)
        for placement in small_placements():
            for plan in plans_of(placement, draw):
                found = judge_plan(placement, plan)
                self.assertIs(plan_holds(placement, plan, found), True)
                self.assertEqual(found == ("right",), is_enough(placement, plan))

    def test_a_wrong_plan_from_its_run_to_a_short_one_on_a_bench(self):
        seen = 0
        for placement in small_placements():
            plan = oracle_runs.own(placement)
            found = judge_plan(placement, plan)
            if found == ("right",):
                continue
            short = shortened(placement, plan, found[1])
            self.assertIs(is_short(placement, plan, short), True)
            desk = Bench(read_placement(placement_text(placement)), plan)
            for event in read_run(placement, plan, run_text(placement, plan, short)):
                desk.do(event)
            self.assertEqual(desk.verdict(), judge_run(placement, plan, short))
            self.assertEqual(desk.verdict()[:2], ("early", len(short) - 1))
            seen += 1
        self.assertGreater(seen, 20)

    def test_a_store_with_a_right_plan_reads_nothing_old(self):
        draw = Numbers(142)
        for placement in small_placements():
            for plan in (least_plan(placement), whole(placement, least_plan(placement))):
                store, _ = drawn_store(placement, plan, draw, 25)
                self.assertEqual(judge_run(placement, plan, run_of(store)), ("right",))
                self.assertEqual(judge_history(placement, history(store)), ("causal",))
                self.assertEqual(replayed(placement, plan, history(store)), store)

    def test_the_price_counts_what_the_least_plan_counts(self):
        for placement in small_placements():
            self.assertEqual(price(placement, ())[0], sum(numbers(placement, least_plan(placement))))


if __name__ == "__main__":
    unittest.main()
