"""Costs from the front: point 17, and 2 and 3 over it."""

import copy
import unittest

from callmatch.errors import TooLong
from callmatch.front import front
from callmatch.papers import claims
from callmatch.shorts import inner
from callmatch.shut import is_shut
from callmatch.unroll import unrolled
from callmatch.ways import walked
from drawn import drawn_chart, drawn_start, largest_chart
from plain import plain_inside, plain_places, plain_ways

MOST_COST = 10 ** 18


def front_costs(chart, start):
    """The costs that the rows claim for the keys found."""
    rows, found = front(chart, start)
    told = claims(chart, start, rows)
    return {key: told[k][4] for key, k in found.items()}


def inner_costs(chart):
    rows, found = inner(chart)
    told = claims(chart, 0, rows)
    return {key: told[k][5] for key, k in found.items()}


class FrontCase(unittest.TestCase):
    def assert_paper(self, chart, start):
        """The rows are a paper by the start, and each row found claims its key."""
        rows, found = front(chart, start)
        self.assertIs(type(rows), list)
        self.assertIs(type(found), dict)
        self.assertLessEqual(len(rows), 3000)
        told = claims(chart, start, rows)
        for key, k in found.items():
            self.assertIs(type(k), int)
            self.assertIs(type(key), tuple)
            self.assertTrue(0 <= k < len(rows))
            self.assertEqual(told[k][:4], ("at",) + key)

    def assert_walks(self, chart, start):
        """Rows unrolled walk to their place and fact at the cost told; how many did, and how many were too long."""
        rows, found = front(chart, start)
        costs = front_costs(chart, start)
        short, longer = 0, 0
        for key, k in found.items():
            try:
                fact, moves = unrolled(chart, start, rows, k)
            except TooLong:
                longer += 1
                continue
            self.assertEqual(walked(chart, start, fact, moves)[:4], key + (costs[key],))
            short += 1
        return short, longer

    def assert_front(self, chart, start, wanted):
        """Just these costs, by a paper, and shut."""
        self.assert_paper(chart, start)
        self.assertEqual(front_costs(chart, start), wanted, (chart, start))
        self.assertTrue(is_shut(chart, start, inner_costs(chart), wanted))
        self.assert_walks(chart, start)

    def assert_front_of(self, chart, start):
        self.assert_front(chart, start, plain_places(chart, start, plain_inside(chart)))


class Front(FrontCase):
    def test_an_empty_start(self):
        charts = [drawn_chart(seed) for seed in range(30)] + [largest_chart(1)]
        for chart in charts:
            self.assert_paper(chart, 0)
            self.assertEqual(front(chart, 0)[1], {})

    def test_no_edges(self):
        for start in range(8):
            wanted = {(0, 0, d): 0 for d in range(3) if start >> d & 1}
            self.assert_front([(2, 3, []), (1, 1, [])], start, wanted)

    def test_a_step(self):
        chart = [(2, 2, [("step", 0, 1, 5, (2, 1))])]
        self.assert_front(chart, 1, {(0, 0, 0): 0, (0, 1, 1): 5})
        self.assert_front(chart, 2, {(0, 0, 1): 0, (0, 1, 0): 5})
        self.assert_front(chart, 3, {(0, 0, 0): 0, (0, 1, 1): 5, (0, 0, 1): 0, (0, 1, 0): 5})

    def test_an_over(self):
        chart = [(2, 1, [("call", 0, 1, 5, 1, (0,), (0,), (1,))]), (1, 1, [])]
        self.assert_front(chart, 1, {(0, 0, 0): 0, (0, 1, 0): 5})

    def test_a_call_that_is_left_open(self):
        chart = [(2, 1, [("call", 0, 1, 5, 1, (2,), (0, 0), (0,))]), (2, 2, [("step", 0, 1, 3, (0, 1))])]
        self.assert_front(chart, 1, {(0, 0, 0): 0, (1, 0, 1): 5, (1, 1, 0): 8})

    def test_a_call_that_is_shut(self):
        chart = [(2, 1, [("call", 0, 1, 5, 1, (2,), (1, 0), (0,))]), (2, 2, [("step", 0, 1, 3, (0, 1))])]
        self.assert_front(chart, 1, {(0, 0, 0): 0, (1, 0, 1): 5, (1, 1, 0): 8, (0, 1, 0): 8})

    def test_returns_go_back_to_their_own_calls(self):
        # Both calls bring what they get through unchanged; fact 1 comes to the second call alone.
        same = (1, 2)
        edges = [
            ("call", 0, 1, 1, 1, same, same, (0, 0)),
            ("step", 1, 2, 1, (2, 0)),
            ("call", 2, 3, 1, 1, same, same, (0, 0)),
        ]
        chart = [(4, 2, edges), (2, 2, [("step", 0, 1, 1, same)])]
        wanted = {(0, 0, 0): 0, (1, 0, 0): 1, (1, 1, 0): 2, (0, 1, 0): 2, (0, 2, 1): 3}
        wanted.update({(1, 0, 1): 4, (1, 1, 1): 5, (0, 3, 1): 5})
        self.assert_front(chart, 1, wanted)

    def test_a_function_that_is_never_called_is_not_told(self):
        chart = [(1, 1, []), (2, 1, [("step", 0, 1, 1, (1,)), ("call", 0, 1, 1, 0, (1,), (1,), (1,))])]
        self.assert_front(chart, 1, {(0, 0, 0): 0})

    def test_a_function_called_from_two_places(self):
        edges = [
            ("call", 0, 1, 50, 1, (1,), (0,), (1,)),
            ("step", 0, 2, 5, (1,)),
            ("call", 2, 1, 6, 1, (1,), (0,), (1,)),
        ]
        chart = [(3, 1, edges), (2, 1, [("step", 0, 1, 3, (1,))])]
        self.assert_front(chart, 1, {(0, 0, 0): 0, (0, 2, 0): 5, (0, 1, 0): 11, (1, 0, 0): 11, (1, 1, 0): 14})

    def test_function_0_called_again(self):
        # Fact 1 comes to the entry of function 0 by a call alone.
        chart = [(2, 2, [("call", 0, 1, 5, 0, (2, 0), (0, 1), (0, 0)), ("step", 0, 1, 3, (0, 2))])]
        self.assert_front(chart, 1, {(0, 0, 0): 0, (0, 0, 1): 5, (0, 1, 1): 8, (0, 1, 0): 8})

    def test_edges_that_lead_to_an_entry(self):
        chart = [(2, 2, [("step", 0, 1, 3, (1, 2)), ("step", 1, 0, 4, (2, 0))])]
        self.assert_front(chart, 1, {(0, 0, 0): 0, (0, 1, 0): 3, (0, 0, 1): 7, (0, 1, 1): 10})

    def test_a_function_of_one_place(self):
        chart = [(1, 2, [("call", 0, 0, 5, 0, (2, 0), (0, 1), (0, 0)), ("step", 0, 0, 1, (0, 1))])]
        self.assert_front(chart, 1, {(0, 0, 0): 0, (0, 0, 1): 5})
        self.assert_front(chart, 2, {(0, 0, 1): 0, (0, 0, 0): 1})

    def test_rings_of_functions(self):
        for many in range(1, 7):
            chart = [(2, 1, [("call", 0, 1, 10, (f + 1) % many, (1,), (1,), (0,))]) for f in range(many)]
            self.assert_front(chart, 1, {(f, 0, 0): 10 * f for f in range(many)})

    def test_short_cuts_that_double(self):
        chart = []
        for f in range(5):
            chart.append((3, 1, [("call", p, p + 1, 1, f + 1, (1,), (1,), (0,)) for p in (0, 1)]))
        chart.append((3, 1, [("step", 0, 2, MOST_COST, (1,))]))
        self.assert_front_of(chart, 1)
        self.assertEqual(front_costs(chart, 1)[(0, 2, 0)], 32 * MOST_COST + 62)

    def test_rows_of_more_than_400_moves(self):
        # Each function calls itself twice with the next fact, six facts deep, and the last fact calls on.
        into, back, none = (2, 4, 8, 16, 32, 0), (0, 1, 2, 4, 8, 16), (0,) * 6
        lasts = [("call", 0, 2, 1, 1, (0, 0, 0, 0, 0, 1), (32, 0, 0, 0, 0, 0), none)]
        lasts.append(("step", 0, 2, 1, (0, 0, 0, 0, 0, 32)))
        chart = []
        for f in range(2):
            edges = [("call", p, p + 1, 1, f, into, back, none) for p in (0, 1)]
            chart.append((3, 6, edges + [lasts[f]]))
        self.assert_front_of(chart, 1)
        short, longer = self.assert_walks(chart, 1)
        self.assertGreater(short, 0)
        self.assertGreater(longer, 0)


class Drawn(FrontCase):
    def test_the_least_costs(self):
        kept = 0
        for seed in range(200):
            chart = drawn_chart(seed)
            for start in (drawn_start(seed, chart), (1 << chart[0][1]) - 1):
                self.assert_front_of(chart, start)
                kept += len(front(chart, start)[1])
        self.assertGreater(kept, 1500)

    def test_fuller_charts(self):
        for seed in range(40):
            chart = drawn_chart(seed, functions=4, places=3, facts=4, edges=24, full=4, most_cost=30)
            self.assert_front_of(chart, 1)

    def test_charts_in_which_much_costs_alike(self):
        for seed in range(40):
            self.assert_front_of(drawn_chart(seed, functions=3, edges=20, full=3, most_cost=1), 1)

    def test_great_costs(self):
        for seed in range(40):
            self.assert_front_of(drawn_chart(seed, edges=18, full=4, most_cost=MOST_COST), 1)

    def test_by_the_moves_alone(self):
        alike = 0
        for seed in range(150):
            chart = drawn_chart(seed, functions=3, places=3, facts=2, edges=12)
            start = (1 << chart[0][1]) - 1
            rows, found = front(chart, start)
            costs = front_costs(chart, start)
            by_moves = plain_ways(chart, start, 5)
            for key, cost in by_moves.items():
                self.assertLessEqual(costs[key], cost)
            for key, k in found.items():
                if len(unrolled(chart, start, rows, k)[1]) <= 5:
                    self.assertEqual(by_moves[key], costs[key])
                    alike += 1
        self.assertGreater(alike, 300)


class Largest(FrontCase):
    def test_six_functions_of_ten_places_and_six_facts(self):
        for seed in range(3):
            for calls in (0, 5, 10):
                for full in (2, 10):
                    chart = largest_chart(seed, full=full, calls=calls)
                    self.assert_paper(chart, 63)
                    self.assertTrue(is_shut(chart, 63, inner_costs(chart), front_costs(chart, 63)))

    def test_its_costs(self):
        for calls in (3, 10):
            self.assert_front_of(largest_chart(7, full=2, calls=calls, most_cost=50), 21)

    def test_all_edges_in_one_function(self):
        full = (63,) * 6
        edges = [("step", 0, 9, 5, full)]
        edges += [("call", k % 10, (k + 1) % 10, 1 + k, k % 6, full, full, full) for k in range(23)]
        chart = [(10, 6, edges)] + [(10, 6, [])] * 5
        self.assert_paper(chart, 63)
        self.assertEqual(len(front(chart, 63)[1]), 60 + 5 * 6)


class NothingChanged(FrontCase):
    def test_what_is_handed_in_stays(self):
        for seed in range(20):
            chart = drawn_chart(seed)
            before = copy.deepcopy(chart)
            front(chart, 1)
            self.assertEqual(chart, before)

    def test_asked_again_the_same_is_told(self):
        for seed in range(20):
            chart = drawn_chart(seed, edges=20)
            self.assertEqual(front(chart, 1), front(copy.deepcopy(chart), 1))

    def test_what_is_told_is_the_askers_own(self):
        chart = drawn_chart(4, edges=20)
        wanted = copy.deepcopy(front(chart, 1))
        inside = copy.deepcopy(inner(chart))
        rows, found = front(chart, 1)
        rows.clear()
        found.clear()
        self.assertEqual(front(chart, 1), wanted)
        self.assertEqual(inner(chart), inside)
        told = front(chart, 1)
        rows, found = inner(chart)
        rows.clear()
        found.clear()
        chart[0][2].clear()
        chart.append((1, 1, []))
        self.assertEqual(told, wanted)


if __name__ == "__main__":
    unittest.main()
