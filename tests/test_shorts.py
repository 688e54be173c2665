"""Inner costs and short cuts: point 16, and 2 and 3 over it."""

import copy
import unittest

from callmatch.charts import checked
from callmatch.papers import claims
from callmatch.shorts import inner, shorts
from drawn import drawn_chart, largest_chart
from plain import plain_inside, plain_within

MOST_COST = 10 ** 18


def inner_costs(chart):
    """The costs that the rows claim for the keys found."""
    rows, found = inner(chart)
    told = claims(chart, 0, rows)
    return {key: told[k][5] for key, k in found.items()}


class InnerCase(unittest.TestCase):
    def assert_paper(self, chart):
        """The rows are a paper of "within" claims, and each row found claims its key."""
        rows, found = inner(chart)
        self.assertIs(type(rows), list)
        self.assertIs(type(found), dict)
        self.assertLessEqual(len(rows), 3000)
        for start in (0, 1, (1 << chart[0][1]) - 1):
            told = claims(chart, start, rows)
            self.assertEqual([claim[0] for claim in told], ["within"] * len(rows))
        for key, k in found.items():
            self.assertIs(type(k), int)
            self.assertIs(type(key), tuple)
            self.assertTrue(0 <= k < len(rows))
            self.assertEqual(told[k][:5], ("within",) + key)

    def assert_inner(self, chart, wanted):
        """Just these costs, by a paper."""
        self.assert_paper(chart)
        self.assertEqual(inner_costs(chart), wanted)
        self.assertEqual(plain_inside(chart), wanted)

    def assert_shorts(self, chart, wanted):
        """The short cuts of each function."""
        for f, costs in enumerate(wanted):
            told = shorts(chart, f)
            self.assertIs(type(told), dict)
            self.assertEqual(told, costs, (chart, f))


class Inner(InnerCase):
    def test_no_edges(self):
        wanted = {(0, 0, 0, 0): 0, (0, 1, 0, 1): 0, (1, 0, 0, 0): 0}
        self.assert_inner([(3, 2, []), (1, 1, [])], wanted)
        self.assert_shorts([(3, 2, []), (1, 1, [])], [{}, {(0, 0): 0}])

    def test_a_step(self):
        chart = [(2, 2, [("step", 0, 1, 5, (2, 3))])]
        wanted = {(0, 0, 0, 0): 0, (0, 1, 0, 1): 0, (0, 0, 1, 1): 5, (0, 1, 1, 0): 5, (0, 1, 1, 1): 5}
        self.assert_inner(chart, wanted)
        self.assert_shorts(chart, [{(0, 1): 5, (1, 0): 5, (1, 1): 5}])

    def test_an_over(self):
        chart = [(2, 2, [("call", 0, 1, 5, 1, (1, 1), (0,), (2, 0))]), (2, 1, [])]
        self.assert_inner(chart, {(0, 0, 0, 0): 0, (0, 1, 0, 1): 0, (1, 0, 0, 0): 0, (0, 0, 1, 1): 5})
        self.assert_shorts(chart, [{(0, 1): 5}, {}])

    def test_a_short_cut(self):
        chart = [(2, 2, [("call", 0, 1, 5, 1, (0, 2), (0, 0, 1), (0, 0))]), (2, 3, [("step", 0, 1, 7, (1, 4, 0))])]
        wanted = {(0, 0, 0, 0): 0, (0, 1, 0, 1): 0, (1, 0, 0, 0): 0, (1, 1, 0, 1): 0, (1, 2, 0, 2): 0}
        wanted.update({(1, 0, 1, 0): 7, (1, 1, 1, 2): 7, (0, 1, 1, 0): 12})
        self.assert_inner(chart, wanted)
        self.assert_shorts(chart, [{(1, 0): 12}, {(0, 0): 7, (1, 2): 7}])

    def test_the_lesser_of_two(self):
        for first, second in ((4, 9), (9, 4), (4, 4)):
            chart = [(2, 1, [("step", 0, 1, first, (1,)), ("step", 0, 1, second, (1,))])]
            self.assert_inner(chart, {(0, 0, 0, 0): 0, (0, 0, 1, 0): 4})
        # Over two places at less than straight on.
        chart = [(3, 1, [("step", 0, 2, 9, (1,)), ("step", 0, 1, 4, (1,)), ("step", 1, 2, 4, (1,))])]
        self.assert_inner(chart, {(0, 0, 0, 0): 0, (0, 0, 1, 0): 4, (0, 0, 2, 0): 8})
        self.assert_shorts(chart, [{(0, 0): 8}])

    def test_over_or_through_a_call(self):
        for through, over in ((3, 8), (8, 3)):
            edges = [("call", 0, 1, 1, 1, (1,), (1,), (0,)), ("call", 0, 1, over, 1, (0,), (0,), (1,))]
            chart = [(2, 1, edges), (2, 1, [("step", 0, 1, through, (1,))])]
            self.assert_shorts(chart, [{(0, 0): min(1 + through, over)}, {(0, 0): through}])

    def test_a_call_of_a_function_whose_exit_is_never_come_to(self):
        chart = [(2, 1, [("call", 0, 1, 1, 1, (1,), (1,), (0,))]), (3, 1, [("step", 0, 1, 1, (1,))])]
        self.assert_inner(chart, {(0, 0, 0, 0): 0, (1, 0, 0, 0): 0, (1, 0, 1, 0): 1})
        self.assert_shorts(chart, [{}, {}])

    def test_a_call_that_brings_nothing_into_or_back(self):
        for into, back in (((0,), (1,)), ((1,), (0,))):
            chart = [(2, 1, [("call", 0, 1, 1, 1, into, back, (0,))]), (2, 1, [("step", 0, 1, 1, (1,))])]
            self.assert_shorts(chart, [{}, {(0, 0): 1}])

    def test_a_function_of_one_place(self):
        chart = [(1, 2, [("step", 0, 0, 4, (2, 0))])]
        self.assert_inner(chart, {(0, 0, 0, 0): 0, (0, 1, 0, 1): 0, (0, 0, 0, 1): 4})
        self.assert_shorts(chart, [{(0, 0): 0, (1, 1): 0, (0, 1): 4}])
        # Called, it gives back at once.
        chart = [(2, 1, [("call", 0, 1, 3, 1, (2,), (0, 1), (0,))]), (1, 2, [])]
        self.assert_shorts(chart, [{(0, 0): 3}, {(0, 0): 0, (1, 1): 0}])

    def test_a_function_of_one_place_that_calls_itself(self):
        # In with the other fact, and back with it turned again: 0 becomes 1 by a call of its own end alone.
        chart = [(1, 3, [("call", 0, 0, 3, 0, (2, 0, 0), (0, 4, 0), (0, 0, 0))])]
        wanted = {(0, 0, 0, 0): 0, (0, 1, 0, 1): 0, (0, 2, 0, 2): 0, (0, 0, 0, 2): 3}
        self.assert_inner(chart, wanted)
        # In with the same fact: the call is made from the very end that it comes back from.
        chart = [(1, 2, [("call", 0, 0, 3, 0, (1, 0), (2, 0), (0, 0))])]
        self.assert_inner(chart, {(0, 0, 0, 0): 0, (0, 1, 0, 1): 0, (0, 0, 0, 1): 3})
        self.assert_shorts(chart, [{(0, 0): 0, (1, 1): 0, (0, 1): 3}])

    def test_a_call_made_behind_the_end_and_ahead_of_it(self):
        # The called function's exit is come to ahead of the call, then behind it.
        for early, late in ((1, 50), (50, 1)):
            edges = [("step", 0, 1, late, (1,)), ("call", 1, 2, 2, 1, (1,), (1,), (0,))]
            chart = [(3, 1, edges), (2, 1, [("step", 0, 1, early, (1,))])]
            self.assert_shorts(chart, [{(0, 0): 53}, {(0, 0): early}])

    def test_a_function_that_calls_itself(self):
        # Each time a fact goes one further in, till the step brings the last one out.
        facts = 4
        into = tuple([2 << d if d < facts - 1 else 0 for d in range(facts)])
        step = (0,) * (facts - 1) + (8,)
        edges = [("call", 0, 1, 10, 0, into, (1, 2, 4, 8), (0,) * facts), ("step", 0, 1, 1, step)]
        chart = [(2, facts, edges)]
        self.assert_shorts(chart, [{(0, 3): 31, (1, 3): 21, (2, 3): 11, (3, 3): 1}])
        self.assert_paper(chart)

    def test_rings_of_functions(self):
        # Each calls the next one, the last one the first; one alone has a step past its call.
        for many in range(1, 7):
            for last in range(many):
                chart = []
                for f in range(many):
                    edges = [("call", 0, 1, 10, (f + 1) % many, (1,), (1,), (0,))]
                    chart.append((2, 1, edges + ([("step", 0, 1, 1, (1,))] if f == last else [])))
                self.assert_shorts(chart, [{(0, 0): 1 + 10 * ((last - f) % many)} for f in range(many)])
                self.assert_paper(chart)
                gone = [(2, 1, edges[:1]) for places, facts, edges in chart]
                self.assert_shorts(gone, [{}] * many)

    def test_short_cuts_that_double(self):
        # Each function calls the next one twice.
        chart = []
        for f in range(5):
            chart.append((3, 1, [("call", p, p + 1, 1, f + 1, (1,), (1,), (0,)) for p in (0, 1)]))
        chart.append((3, 1, [("step", 0, 2, MOST_COST, (1,))]))
        wanted = [MOST_COST]
        for f in range(5):
            wanted.insert(0, 2 + 2 * wanted[0])
        self.assert_shorts(chart, [{(0, 0): cost} for cost in wanted])
        self.assert_paper(chart)

    def test_short_cuts_that_double_by_facts(self):
        # Fact d of the one function is two calls with fact d + 1, and a back that brings it to where it was.
        into = (2, 4, 8, 16, 32, 0)
        back = (0, 1, 2, 4, 8, 16)
        edges = [("call", p, p + 1, MOST_COST, 0, into, back, (0,) * 6) for p in (0, 1)]
        edges.append(("step", 0, 2, MOST_COST, (0, 0, 0, 0, 0, 32)))
        chart = [(3, 6, edges)]
        wanted, cost = {}, MOST_COST
        for d in range(5, -1, -1):
            wanted[(d, d)] = cost
            cost = 2 * (cost + MOST_COST)
        self.assert_shorts(chart, [wanted])
        self.assert_paper(chart)

    def test_edges_that_leave_an_exit_and_lead_to_an_entry(self):
        chart = [(2, 2, [("step", 0, 1, 3, (1, 2)), ("step", 1, 0, 4, (2, 1))])]
        wanted = {}
        for a in (0, 1):
            wanted.update({(0, a, 0, a): 0, (0, a, 1, a): 3, (0, a, 0, 1 - a): 7, (0, a, 1, 1 - a): 10})
        self.assert_inner(chart, wanted)

    def test_functions_that_are_never_called_are_told_too(self):
        chart = [(1, 1, []), (2, 2, [("step", 0, 1, 3, (2, 1))])]
        self.assert_shorts(chart, [{(0, 0): 0}, {(0, 1): 3, (1, 0): 3}])


class Drawn(InnerCase):
    def test_the_least_costs(self):
        kept = 0
        for seed in range(400):
            chart = drawn_chart(seed)
            wanted = plain_inside(chart)
            self.assert_inner(chart, wanted)
            kept += len(wanted)
        self.assertGreater(kept, 4000)

    def test_fuller_charts(self):
        for seed in range(60):
            self.assert_inner_of(drawn_chart(seed, functions=4, places=3, facts=4, edges=24, full=5, most_cost=30))

    def test_charts_in_which_much_costs_alike(self):
        for seed in range(60):
            self.assert_inner_of(drawn_chart(seed, functions=2, places=3, facts=3, edges=16, full=4, most_cost=1))

    def test_great_costs(self):
        for seed in range(40):
            self.assert_inner_of(drawn_chart(seed, edges=16, full=5, most_cost=MOST_COST))

    def assert_inner_of(self, chart):
        self.assert_inner(chart, plain_inside(chart))

    def test_short_cuts(self):
        for seed in range(60):
            chart = drawn_chart(seed, functions=4, edges=20, full=5)
            inside = plain_inside(chart)
            wanted = [{} for f in chart]
            for (f, a, p, d), cost in inside.items():
                if p == chart[f][0] - 1:
                    wanted[f][(a, d)] = cost
            self.assert_shorts(chart, wanted)

    def test_by_the_moves_alone(self):
        for seed in range(40):
            chart = drawn_chart(seed, functions=2, places=3, facts=2, edges=8)
            costs = inner_costs(chart)
            for f, function in enumerate(chart):
                for a in range(function[1]):
                    for (p, d), cost in plain_within(chart, f, a, 6).items():
                        self.assertLessEqual(costs[(f, a, p, d)], cost)


class Largest(InnerCase):
    def test_six_functions_of_ten_places_and_six_facts(self):
        for seed in range(3):
            for calls in (0, 5, 10):
                for full in (2, 10):
                    chart = largest_chart(seed, full=full, calls=calls)
                    self.assertEqual(checked(chart), chart)
                    self.assertEqual(sum([len(function[2]) for function in chart]), 24)
                    self.assert_paper(chart)

    def test_its_costs(self):
        for calls in (3, 10):
            chart = largest_chart(7, full=2, calls=calls, most_cost=50)
            self.assertEqual(inner_costs(chart), plain_inside(chart))

    def test_all_edges_in_one_function(self):
        full = (63,) * 6
        edges = [("step", 0, 9, 5, full)]
        edges += [("call", k % 10, (k + 1) % 10, 1 + k, k % 6, full, full, full) for k in range(23)]
        chart = [(10, 6, edges)] + [(10, 6, [])] * 5
        self.assert_paper(chart)
        self.assertEqual(shorts(chart, 0)[(0, 5)], 5)
        self.assertEqual(len(inner(chart)[1]), 360 + 5 * 6)


class NothingChanged(InnerCase):
    def test_what_is_handed_in_stays(self):
        for seed in range(20):
            chart = drawn_chart(seed)
            before = copy.deepcopy(chart)
            inner(chart)
            for f in range(len(chart)):
                shorts(chart, f)
            self.assertEqual(chart, before)

    def test_asked_again_the_same_is_told(self):
        for seed in range(20):
            chart = drawn_chart(seed, edges=20)
            self.assertEqual(inner(chart), inner(copy.deepcopy(chart)))

    def test_what_is_told_is_the_askers_own(self):
        chart = drawn_chart(4, edges=20)
        wanted = copy.deepcopy(inner(chart))
        cuts = [dict(shorts(chart, f)) for f in range(len(chart))]
        rows, found = inner(chart)
        rows.clear()
        found.clear()
        for f in range(len(chart)):
            shorts(chart, f).clear()
        self.assertEqual(inner(chart), wanted)
        told = inner(chart)
        self.assert_shorts(chart, cuts)
        chart[0][2].clear()
        chart.append((1, 1, []))
        self.assertEqual(told, wanted)


if __name__ == "__main__":
    unittest.main()
