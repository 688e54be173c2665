"""Costs from the back: point 18, and 2 and 3 over it."""

import copy
import unittest

from callmatch.back import back
from callmatch.charts import checked
from callmatch.front import front
from callmatch.papers import claims
from callmatch.shorts import shorts
from drawn import drawn_chart, drawn_start, largest_chart
from plain import facts, plain_back, plain_inside, plain_states

MOST_COST = 10 ** 18


def front_costs(chart, start):
    """The costs that the rows claim for the keys found."""
    rows, found = front(chart, start)
    told = claims(chart, start, rows)
    return {key: told[k][4] for key, k in found.items()}


def keys_of(chart):
    """All (function, place, fact) of a chart."""
    return [(f, p, d) for f in range(len(chart)) for p in range(chart[f][0]) for d in range(chart[f][1])]


class BackCase(unittest.TestCase):
    def assert_back(self, chart, target, wanted):
        """Just these costs, and of the kinds told."""
        told = back(chart, *target)
        self.assertIs(type(told), dict)
        for key, cost in told.items():
            self.assertIs(type(key), tuple)
            self.assertEqual([type(part) for part in key], [int, int, int])
            self.assertIs(type(cost), int)
        self.assertEqual(told, wanted, (chart, target))

    def assert_back_of(self, chart, keys=None):
        """The costs to these keys, or to all of the chart's, by the plain reckoning; how many were told."""
        inside = plain_inside(chart)
        many = 0
        for target in keys_of(chart) if keys is None else keys:
            wanted = plain_back(chart, target, inside)
            self.assert_back(chart, target, wanted)
            many += len(wanted)
        return many

    def assert_front_and_back(self, chart, start):
        """The least that the back tells of the start is what the front tells; how many keys a way led to."""
        costs = front_costs(chart, start)
        for target in keys_of(chart):
            told = back(chart, *target)
            at_start = [told[(0, 0, e)] for e in facts(start) if (0, 0, e) in told]
            self.assertEqual(min(at_start, default=None), costs.get(target), (chart, start, target))
        return len(costs)


class Back(BackCase):
    def test_nothing_leads_there(self):
        chart = [(3, 2, [("step", 0, 1, 5, (3, 3))]), (2, 1, [])]
        self.assert_back(chart, (0, 2, 0), {(0, 2, 0): 0})
        self.assert_back(chart, (0, 0, 1), {(0, 0, 1): 0})
        self.assert_back(chart, (1, 0, 0), {(1, 0, 0): 0})
        self.assert_back(chart, (1, 1, 0), {(1, 1, 0): 0})

    def test_a_step(self):
        chart = [(2, 2, [("step", 0, 1, 5, (2, 0))])]
        self.assert_back(chart, (0, 1, 1), {(0, 1, 1): 0, (0, 0, 0): 5})
        self.assert_back(chart, (0, 1, 0), {(0, 1, 0): 0})

    def test_a_step_from_several_facts(self):
        chart = [(2, 3, [("step", 0, 1, 5, (2, 3, 4))])]
        self.assert_back(chart, (0, 1, 1), {(0, 1, 1): 0, (0, 0, 0): 5, (0, 0, 1): 5})
        self.assert_back(chart, (0, 1, 0), {(0, 1, 0): 0, (0, 0, 1): 5})
        self.assert_back(chart, (0, 1, 2), {(0, 1, 2): 0, (0, 0, 2): 5})

    def test_an_over(self):
        chart = [(2, 2, [("call", 0, 1, 5, 1, (0, 0), (3,), (2, 0))]), (1, 1, [])]
        self.assert_back(chart, (0, 1, 1), {(0, 1, 1): 0, (0, 0, 0): 5})
        self.assert_back(chart, (0, 1, 0), {(0, 1, 0): 0})

    def test_an_in(self):
        chart = [(2, 2, [("call", 0, 1, 5, 1, (2, 0), (3, 3), (0, 0))]), (3, 2, [])]
        self.assert_back(chart, (1, 0, 1), {(1, 0, 1): 0, (0, 0, 0): 5})
        self.assert_back(chart, (1, 0, 0), {(1, 0, 0): 0})
        self.assert_back(chart, (1, 2, 1), {(1, 2, 1): 0})

    def test_an_out_of_a_call_that_was_opened(self):
        chart = [(2, 2, [("call", 0, 1, 5, 1, (2, 0), (0, 2), (0, 0))]), (1, 2, [])]
        self.assert_back(chart, (0, 1, 1), {(0, 1, 1): 0, (0, 0, 0): 5})
        self.assert_back(chart, (1, 0, 1), {(1, 0, 1): 0, (0, 0, 0): 5})
        chart[1] = (2, 2, [("step", 0, 1, 3, (0, 1))])
        self.assert_back(chart, (0, 1, 1), {(0, 1, 1): 0})
        chart[1] = (2, 2, [("step", 0, 1, 3, (0, 2))])
        self.assert_back(chart, (0, 1, 1), {(0, 1, 1): 0, (0, 0, 0): 8})

    def test_no_out_of_a_call_that_was_not_opened(self):
        # From inside of function 1 an out would lead back to function 0, but these moves didn't go in.
        chart = [(3, 1, [("call", 0, 1, 5, 1, (1,), (1,), (0,)), ("step", 1, 2, 2, (1,))])]
        chart.append((2, 1, [("step", 0, 1, 3, (1,))]))
        self.assert_back(chart, (0, 2, 0), {(0, 2, 0): 0, (0, 1, 0): 2, (0, 0, 0): 10})
        self.assert_back(chart, (1, 1, 0), {(1, 1, 0): 0, (1, 0, 0): 3, (0, 0, 0): 8})

    def test_returns_go_back_to_their_own_calls(self):
        # Into by the one call and out by the other would lead from fact 0 at place 0 to fact 1 at place 3.
        edges = [("call", 0, 1, 1, 1, (1, 2), (1, 2), (0, 0)), ("call", 2, 3, 1, 1, (1, 2), (3, 3), (0, 0))]
        chart = [(4, 2, edges), (2, 2, [("step", 0, 1, 1, (1, 2))])]
        self.assert_back(chart, (0, 3, 1), {(0, 3, 1): 0, (0, 2, 0): 2, (0, 2, 1): 2})
        self.assert_back(chart, (0, 1, 0), {(0, 1, 0): 0, (0, 0, 0): 2})

    def test_calls_left_open_one_in_the_other(self):
        chart = [(2, 1, [("call", 0, 1, 10 ** f, f + 1, (1,), (0,), (0,))]) for f in range(5)] + [(3, 1, [])]
        wanted = {(5, 0, 0): 0, (4, 0, 0): 10000, (3, 0, 0): 11000, (2, 0, 0): 11100, (1, 0, 0): 11110}
        wanted[(0, 0, 0)] = 11111
        self.assert_back(chart, (5, 0, 0), wanted)
        chart[5][2].append(("step", 0, 2, 5, (1,)))
        deeper = {key: cost + 5 for key, cost in wanted.items()}
        deeper[(5, 2, 0)] = 0
        self.assert_back(chart, (5, 2, 0), deeper)

    def test_a_call_shut_again_ahead_of_one_left_open(self):
        edges = [("call", 0, 1, 2, 1, (1,), (1,), (0,)), ("call", 1, 2, 3, 2, (1,), (0,), (0,))]
        chart = [(3, 1, edges), (2, 1, [("step", 0, 1, 7, (1,))]), (2, 1, [("step", 0, 1, 40, (1,))])]
        self.assert_back(chart, (2, 1, 0), {(2, 1, 0): 0, (2, 0, 0): 40, (0, 1, 0): 43, (0, 0, 0): 52})

    def test_a_call_shut_again_inside_of_one_left_open(self):
        edges = [("call", 0, 1, 2, 2, (1,), (1,), (0,))]
        chart = [(2, 1, [("call", 0, 1, 5, 1, (1,), (0,), (0,))]), (2, 1, edges)]
        chart.append((2, 1, [("step", 0, 1, 7, (1,))]))
        self.assert_back(chart, (1, 1, 0), {(1, 1, 0): 0, (1, 0, 0): 9, (0, 0, 0): 14})

    def test_function_0_called(self):
        chart = [(2, 1, [("step", 0, 1, 3, (1,))]), (2, 1, [("call", 0, 1, 5, 0, (1,), (1,), (0,))])]
        self.assert_back(chart, (0, 1, 0), {(0, 1, 0): 0, (0, 0, 0): 3, (1, 0, 0): 8})
        self.assert_back(chart, (1, 1, 0), {(1, 1, 0): 0, (1, 0, 0): 8})

    def test_a_function_that_calls_itself(self):
        # Only fact 1 comes to the exit by itself: fact 0 goes in as fact 1, and comes back as fact 0.
        chart = [(2, 2, [("call", 0, 1, 5, 0, (2, 0), (0, 1), (0, 0)), ("step", 0, 1, 3, (0, 2))])]
        self.assert_back(chart, (0, 1, 0), {(0, 1, 0): 0, (0, 0, 0): 8})
        self.assert_back(chart, (0, 1, 1), {(0, 1, 1): 0, (0, 0, 1): 3, (0, 0, 0): 8})
        self.assert_back(chart, (0, 0, 1), {(0, 0, 1): 0, (0, 0, 0): 5})

    def test_rings_of_functions(self):
        for many in range(1, 7):
            chart = [(2, 1, [("call", 0, 1, 10, (f + 1) % many, (1,), (1,), (0,))]) for f in range(many)]
            self.assert_back(chart, (0, 0, 0), {(f, 0, 0): (many - f) % many * 10 for f in range(many)})
            self.assert_back(chart, (0, 1, 0), {(0, 1, 0): 0})
            chart[many - 1][2].append(("step", 0, 1, 1, (1,)))
            wanted = {(f, 0, 0): (many - 1 - f) * 10 + 1 for f in range(many)}
            wanted[(many - 1, 1, 0)] = 0
            self.assert_back(chart, (many - 1, 1, 0), wanted)

    def test_two_functions_that_call_one_another(self):
        chart = [(2, 1, [("call", 0, 1, 2, 1, (1,), (1,), (0,))])]
        chart.append((2, 1, [("call", 0, 1, 4, 0, (1,), (1,), (0,)), ("step", 0, 1, 100, (1,))]))
        self.assert_back(chart, (0, 1, 0), {(0, 1, 0): 0, (0, 0, 0): 102, (1, 0, 0): 106})
        self.assert_back(chart, (1, 1, 0), {(1, 1, 0): 0, (1, 0, 0): 100, (0, 0, 0): 102})

    def test_a_place_that_is_an_entry(self):
        chart = [(2, 1, [("step", 0, 1, 3, (1,)), ("step", 1, 0, 4, (1,))])]
        self.assert_back(chart, (0, 0, 0), {(0, 0, 0): 0, (0, 1, 0): 4})

    def test_a_place_that_is_entry_and_exit(self):
        chart = [(1, 2, [("step", 0, 0, 4, (2, 0))])]
        self.assert_back(chart, (0, 0, 1), {(0, 0, 1): 0, (0, 0, 0): 4})
        self.assert_back(chart, (0, 0, 0), {(0, 0, 0): 0})
        chart = [(2, 2, [("call", 0, 1, 5, 1, (1, 0), (0, 2), (0, 0))]), (1, 2, [("step", 0, 0, 4, (2, 0))])]
        self.assert_back(chart, (0, 1, 1), {(0, 1, 1): 0, (0, 0, 0): 9})
        self.assert_back(chart, (1, 0, 1), {(1, 0, 1): 0, (1, 0, 0): 4, (0, 0, 0): 9})

    def test_a_function_of_one_place_that_calls_itself(self):
        chart = [(1, 3, [("call", 0, 0, 3, 0, (2, 0, 0), (0, 4, 0), (0, 0, 0))])]
        self.assert_back(chart, (0, 0, 2), {(0, 0, 2): 0, (0, 0, 0): 3})
        self.assert_back(chart, (0, 0, 1), {(0, 0, 1): 0, (0, 0, 0): 3})

    def test_edges_that_leave_an_exit(self):
        chart = [(3, 1, [("step", 0, 2, 3, (1,)), ("step", 2, 1, 4, (1,))])]
        self.assert_back(chart, (0, 1, 0), {(0, 1, 0): 0, (0, 2, 0): 4, (0, 0, 0): 7})

    def test_the_lesser_of_two(self):
        for through, over, step in ((3, 8, 9), (8, 3, 9), (8, 9, 3), (3, 3, 3)):
            edges = [("call", 0, 1, 1, 1, (1,), (1,), (0,)), ("call", 0, 1, over, 1, (0,), (0,), (1,))]
            chart = [(2, 1, edges + [("step", 0, 1, step, (1,))]), (2, 1, [("step", 0, 1, through, (1,))])]
            self.assert_back(chart, (0, 1, 0), {(0, 1, 0): 0, (0, 0, 0): min(1 + through, over, step)})
        chart = [(3, 1, [("step", 0, 2, 9, (1,)), ("step", 0, 1, 4, (1,)), ("step", 1, 2, 4, (1,))])]
        self.assert_back(chart, (0, 2, 0), {(0, 2, 0): 0, (0, 1, 0): 4, (0, 0, 0): 8})

    def test_the_lesser_of_two_facts_through_a_call(self):
        edges = [("step", 0, 1, 7, (1, 0)), ("step", 0, 1, 3, (0, 2))]
        chart = [(2, 1, [("call", 0, 1, 1, 1, (3,), (1, 1), (0,))]), (2, 2, edges)]
        self.assert_back(chart, (0, 1, 0), {(0, 1, 0): 0, (0, 0, 0): 4})

    def test_great_costs(self):
        chart = [(10, 1, [("step", p, p + 1, MOST_COST, (1,)) for p in range(9)])]
        self.assert_back(chart, (0, 9, 0), {(0, p, 0): (9 - p) * MOST_COST for p in range(10)})
        # Each function calls the next one twice: the sum doubles from one to the other.
        chart = [(3, 1, [("call", p, p + 1, 1, f + 1, (1,), (1,), (0,)) for p in (0, 1)]) for f in range(5)]
        chart.append((3, 1, [("step", 0, 2, MOST_COST, (1,))]))
        wanted = {(0, 2, 0): 0, (0, 1, 0): 16 * MOST_COST + 31, (0, 0, 0): 32 * MOST_COST + 62}
        self.assert_back(chart, (0, 2, 0), wanted)


class Drawn(BackCase):
    def test_the_least_costs(self):
        kept = sum([self.assert_back_of(drawn_chart(seed)) for seed in range(200)])
        self.assertGreater(kept, 6000)

    def test_fuller_charts(self):
        for seed in range(30):
            chart = drawn_chart(seed, functions=4, places=3, facts=4, edges=24, full=4, most_cost=30)
            self.assert_back_of(chart, keys_of(chart)[::3])

    def test_charts_in_which_much_costs_alike(self):
        for seed in range(40):
            self.assert_back_of(drawn_chart(seed, functions=3, edges=20, full=3, most_cost=1))

    def test_great_costs(self):
        for seed in range(40):
            self.assert_back_of(drawn_chart(seed, edges=18, full=4, most_cost=MOST_COST))

    def test_what_the_front_tells(self):
        led = 0
        for seed in range(150):
            chart = drawn_chart(seed)
            for start in (drawn_start(seed, chart), 0, (1 << chart[0][1]) - 1):
                led += self.assert_front_and_back(chart, start)
        self.assertGreater(led, 1000)

    def test_by_the_moves_alone(self):
        # An out costs nothing and shuts a call that cost one, so a cost of 2 takes at most four moves.
        alike = 0
        for seed in range(80):
            chart = drawn_chart(seed, functions=3, places=3, facts=2, edges=12, most_cost=1)
            told = {target: back(chart, *target) for target in keys_of(chart)}
            for here in keys_of(chart):
                by_moves = {}
                for state, cost in plain_states(chart, [here + ((),)], 4).items():
                    by_moves[state[:3]] = min(cost, by_moves.get(state[:3], cost))
                for target, cost in by_moves.items():
                    self.assertLessEqual(told[target][here], cost)
                for target in keys_of(chart):
                    if told[target].get(here, 3) < 3:
                        self.assertEqual(told[target][here], by_moves.get(target), (chart, here, target))
                        alike += 1
        self.assertGreater(alike, 800)

    def test_short_cuts_are_told_from_the_back(self):
        for seed in range(60):
            chart = drawn_chart(seed)
            for f in range(len(chart)):
                for (a, d), cost in shorts(chart, f).items():
                    self.assertLessEqual(back(chart, f, chart[f][0] - 1, d)[(f, 0, a)], cost)


class Largest(BackCase):
    def test_six_functions_of_ten_places_and_six_facts(self):
        for calls in (0, 5, 10):
            for full in (2, 10):
                chart = checked(largest_chart(3, full=full, calls=calls))
                self.assert_back_of(chart, [(0, 9, 0), (5, 9, 5)])

    def test_its_costs_are_the_fronts(self):
        chart = checked(largest_chart(7, full=3, calls=5))
        costs = front_costs(chart, 21)
        for target in keys_of(chart)[::7]:
            told = back(chart, *target)
            at_start = [told[(0, 0, e)] for e in (0, 2, 4) if (0, 0, e) in told]
            self.assertEqual(min(at_start, default=None), costs.get(target))

    def test_all_edges_in_one_function(self):
        full = (63,) * 6
        edges = [("step", 0, 9, 5, full)]
        edges += [("call", k % 10, (k + 1) % 10, 1 + k, k % 6, full, full, full) for k in range(23)]
        chart = checked([(10, 6, edges)] + [(10, 6, [])] * 5)
        self.assert_back_of(chart, [(0, 9, 0), (0, 0, 5), (3, 0, 1), (3, 9, 1)])


class NothingChanged(BackCase):
    def test_what_is_handed_in_stays(self):
        for seed in range(20):
            chart = drawn_chart(seed)
            before = copy.deepcopy(chart)
            back(chart, 0, 0, 0)
            self.assertEqual(chart, before)

    def test_what_is_told_is_the_askers_own(self):
        chart = drawn_chart(4, edges=20)
        target = (0, chart[0][0] - 1, 0)
        wanted = plain_back(chart, target, plain_inside(chart))
        before = (front(chart, 1), shorts(chart, 0))
        told = back(chart, *target)
        told.clear()
        told["more"] = 1
        self.assertEqual(back(chart, *target), wanted)
        self.assertEqual((front(chart, 1), shorts(chart, 0)), before)
        told = back(chart, *target)
        back(chart, 0, 0, 0).clear()
        shorts(chart, 0).clear()
        chart[0][2].clear()
        chart.append((1, 1, []))
        self.assertEqual(told, wanted)


if __name__ == "__main__":
    unittest.main()
