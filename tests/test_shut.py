"""Costs that are shut: point 14, and 2 and 3 over it."""

import copy
import unittest

from callmatch.front import front
from callmatch.papers import claims
from callmatch.shorts import inner
from callmatch.shut import is_shut
from drawn import drawn_chart, drawn_start, largest_chart
from plain import plain_inside, plain_places, plain_shut


def all_keys(chart):
    """All keys of inside and of places that the chart has, at nought."""
    inside, places = {}, {}
    for f, (many, facts, edges) in enumerate(chart):
        for p in range(many):
            for d in range(facts):
                places[(f, p, d)] = 0
                for a in range(facts):
                    inside[(f, a, p, d)] = 0
    return inside, places


def least(chart, start):
    inside = plain_inside(chart)
    return inside, plain_places(chart, start, inside)


def told(chart, start):
    """The costs of inner and front, by their papers."""
    rows, found = inner(chart)
    within = claims(chart, start, rows)
    front_rows, front_found = front(chart, start)
    at = claims(chart, start, front_rows)
    inside = {key: within[k][5] for key, k in found.items()}
    return inside, {key: at[k][4] for key, k in front_found.items()}


class ShutCase(unittest.TestCase):
    def assert_shut(self, wanted, chart, start, inside, places):
        found = is_shut(chart, start, inside, places)
        self.assertIs(found, wanted, (chart, start, inside, places))

    def assert_sentence(self, chart, start, inside, places, which, key):
        """Shut as it is; not with one cost greater by one, nor without the key."""
        self.assert_shut(True, chart, start, inside, places)
        for change in ("more", "gone"):
            parts = {"inside": dict(inside), "places": dict(places)}
            if change == "more":
                parts[which][key] += 1
            else:
                del parts[which][key]
            self.assert_shut(False, chart, start, parts["inside"], parts["places"])


class Sentences(ShutCase):
    """Charts so small that nothing but the one sentence stands against the change."""

    def test_a_begin(self):
        chart = [(1, 2, []), (2, 1, [])]
        inside = {(0, 0, 0, 0): 0, (0, 1, 0, 1): 0, (1, 0, 0, 0): 0}
        for key in inside:
            self.assert_sentence(chart, 0, inside, {}, "inside", key)

    def test_a_start(self):
        chart = [(1, 3, [])]
        inside = {(0, d, 0, d): 0 for d in range(3)}
        places = {(0, 0, 0): 0, (0, 0, 2): 0}
        for key in places:
            self.assert_sentence(chart, 5, inside, places, "places", key)
        self.assert_shut(False, chart, 7, inside, places)
        self.assert_shut(True, chart, 4, inside, places)

    def test_a_step(self):
        chart = [(2, 2, [("step", 0, 1, 5, (2, 0))])]
        inside = {(0, 0, 0, 0): 0, (0, 1, 0, 1): 0, (0, 0, 1, 1): 5}
        self.assert_sentence(chart, 0, inside, {}, "inside", (0, 0, 1, 1))
        self.assert_shut(True, chart, 0, {**inside, (0, 0, 1, 1): 4}, {})
        self.assert_shut(True, chart, 0, {**inside, (0, 0, 1, 1): 0}, {})

    def test_a_step_to_several_facts(self):
        chart = [(2, 3, [("step", 0, 1, 5, (5, 0, 0))])]
        inside = {(0, 0, 0, 0): 0, (0, 1, 0, 1): 0, (0, 2, 0, 2): 0, (0, 0, 1, 0): 5, (0, 0, 1, 2): 5}
        for d in (0, 2):
            self.assert_sentence(chart, 0, inside, {}, "inside", (0, 0, 1, d))

    def test_a_step_from_the_midst(self):
        chart = [(3, 2, [("step", 1, 2, 5, (2, 0)), ("step", 0, 1, 2, (1, 0))])]
        inside = {(0, 0, 0, 0): 0, (0, 1, 0, 1): 0, (0, 0, 1, 0): 2, (0, 0, 2, 1): 7}
        self.assert_sentence(chart, 0, inside, {}, "inside", (0, 0, 2, 1))
        # Less than the least is not seen by itself, but by the edge that leads on.
        self.assert_shut(False, chart, 0, {**inside, (0, 0, 1, 0): 1}, {})
        self.assert_shut(True, chart, 0, {**inside, (0, 0, 1, 0): 1, (0, 0, 2, 1): 6}, {})

    def test_an_over(self):
        chart = [(2, 2, [("call", 0, 1, 5, 1, (0, 0), (0,), (2, 0))]), (1, 1, [])]
        inside = {(0, 0, 0, 0): 0, (0, 1, 0, 1): 0, (1, 0, 0, 0): 0, (0, 0, 1, 1): 5}
        self.assert_sentence(chart, 0, inside, {}, "inside", (0, 0, 1, 1))
        self.assert_shut(True, chart, 0, {**inside, (0, 0, 1, 1): 4}, {})

    def test_a_short_cut(self):
        chart = [(2, 2, [("call", 0, 1, 5, 1, (0, 2), (0, 0, 1), (0, 0))]), (2, 3, [("step", 0, 1, 7, (0, 4, 0))])]
        inside = {(0, 0, 0, 0): 0, (0, 1, 0, 1): 0, (1, 0, 0, 0): 0, (1, 1, 0, 1): 0, (1, 2, 0, 2): 0}
        inside.update({(1, 1, 1, 2): 7, (0, 1, 1, 0): 12})
        self.assert_sentence(chart, 0, inside, {}, "inside", (0, 1, 1, 0))
        self.assert_shut(True, chart, 0, {**inside, (0, 1, 1, 0): 11}, {})
        self.assert_shut(False, chart, 0, {**inside, (1, 1, 1, 2): 6}, {})
        self.assert_shut(True, chart, 0, {**inside, (1, 1, 1, 2): 6, (0, 1, 1, 0): 11}, {})
        # Without the short cut its step is missed, and no more the place behind the call.
        lacking = {key: cost for key, cost in inside.items() if key not in ((1, 1, 1, 2), (0, 1, 1, 0))}
        self.assert_shut(False, chart, 0, lacking, {})
        unstepped = [chart[0], (2, 3, [])]
        self.assert_shut(True, unstepped, 0, lacking, {})

    def test_a_short_cut_that_is_told_though_no_moves_lead_to_it(self):
        chart = [(2, 1, [("call", 0, 1, 5, 1, (1,), (1,), (0,))]), (2, 1, [])]
        inside = {(0, 0, 0, 0): 0, (1, 0, 0, 0): 0}
        self.assert_shut(True, chart, 0, inside, {})
        self.assert_shut(False, chart, 0, {**inside, (1, 0, 1, 0): 3}, {})
        self.assert_shut(False, chart, 0, {**inside, (1, 0, 1, 0): 3, (0, 0, 1, 0): 9}, {})
        self.assert_shut(True, chart, 0, {**inside, (1, 0, 1, 0): 3, (0, 0, 1, 0): 8}, {})

    def test_a_short_cut_of_an_entry_that_is_an_exit(self):
        chart = [(2, 1, [("call", 0, 1, 5, 1, (1,), (1,), (0,))]), (1, 1, [])]
        inside = {(0, 0, 0, 0): 0, (1, 0, 0, 0): 0, (0, 0, 1, 0): 5}
        self.assert_sentence(chart, 0, inside, {}, "inside", (0, 0, 1, 0))

    def test_an_along(self):
        chart = [(2, 2, [("step", 0, 1, 5, (2, 0))])]
        inside = {(0, 0, 0, 0): 0, (0, 1, 0, 1): 0, (0, 0, 1, 1): 5}
        places = {(0, 0, 0): 0, (0, 1, 1): 5}
        self.assert_sentence(chart, 1, inside, places, "places", (0, 1, 1))
        self.assert_shut(True, chart, 1, inside, {**places, (0, 1, 1): 4})
        # An inner cost less than the least asks for a lesser one from the start.
        self.assert_shut(False, chart, 1, {**inside, (0, 0, 1, 1): 4}, places)
        self.assert_shut(True, chart, 1, {**inside, (0, 0, 1, 1): 4}, {**places, (0, 1, 1): 4})

    def test_an_along_of_a_key_told_besides(self):
        chart = [(2, 1, []), (2, 1, [])]
        inside = {(0, 0, 0, 0): 0, (1, 0, 0, 0): 0}
        self.assert_shut(True, chart, 0, inside, {(0, 0, 0): 3, (1, 0, 0): 2})
        self.assert_shut(False, chart, 0, {**inside, (1, 0, 1, 0): 4}, {(1, 0, 0): 2})
        self.assert_shut(False, chart, 0, {**inside, (1, 0, 1, 0): 4}, {(1, 0, 0): 2, (1, 1, 0): 7})
        self.assert_shut(True, chart, 0, {**inside, (1, 0, 1, 0): 4}, {(1, 0, 0): 2, (1, 1, 0): 6})
        self.assert_shut(True, chart, 0, {**inside, (1, 0, 1, 0): 4}, {(1, 1, 0): 6})

    def test_an_in(self):
        chart = [(2, 2, [("step", 0, 1, 1, (1, 0)), ("call", 1, 0, 5, 1, (4, 0), (0, 0, 0), (0, 0))]), (2, 3, [])]
        inside = {(0, 0, 0, 0): 0, (0, 1, 0, 1): 0, (1, 0, 0, 0): 0, (1, 1, 0, 1): 0, (1, 2, 0, 2): 0}
        inside[(0, 0, 1, 0)] = 1
        places = {(0, 0, 0): 0, (0, 1, 0): 1, (1, 0, 2): 6}
        self.assert_sentence(chart, 1, inside, places, "places", (1, 0, 2))
        self.assert_shut(True, chart, 1, inside, {**places, (1, 0, 2): 5})
        self.assert_shut(False, chart, 1, inside, {**places, (0, 1, 0): 0})
        self.assert_shut(True, chart, 1, inside, {**places, (0, 1, 0): 0, (1, 0, 2): 5})

    def test_a_start_below_nothing(self):
        # At an entry that is come to at a cost, less is told; the along from it asks for less again.
        chart = [(2, 1, [("call", 0, 0, 4, 1, (1,), (0,), (0,))]), (2, 1, [("step", 0, 1, 2, (1,))])]
        inside, places = least(chart, 1)
        self.assert_shut(True, chart, 1, inside, places)
        self.assert_shut(False, chart, 1, inside, {**places, (1, 0, 0): 3})
        self.assert_shut(True, chart, 1, inside, {**places, (1, 0, 0): 3, (1, 1, 0): 5})

    def test_edges_of_other_places_and_functions(self):
        # The same edge stands in a function and at a place that are not come to.
        chart = [(3, 1, [("step", 1, 2, 5, (1,))]), (3, 1, [("step", 0, 2, 5, (1,))])]
        inside = {(0, 0, 0, 0): 0, (1, 0, 0, 0): 0, (1, 0, 2, 0): 5}
        self.assert_shut(True, chart, 1, inside, {(0, 0, 0): 0})
        self.assert_shut(False, chart, 1, {**inside, (0, 0, 1, 0): 0}, {(0, 0, 0): 0, (0, 1, 0): 0})


class Whole(ShutCase):
    def test_no_start_and_no_places(self):
        for seed in range(30):
            chart = drawn_chart(seed)
            self.assert_shut(True, chart, 0, plain_inside(chart), {})

    def test_nothing_told(self):
        self.assert_shut(False, [(1, 1, [])], 0, {}, {})
        self.assert_shut(False, [(1, 1, [])], 1, {}, {})

    def test_noughts_for_all_keys(self):
        charts = [drawn_chart(seed) for seed in range(40)] + [largest_chart(seed) for seed in range(2)]
        for chart in charts:
            for start in (0, 1, (1 << chart[0][1]) - 1):
                self.assert_shut(True, chart, start, *all_keys(chart))

    def test_the_least_costs(self):
        for seed in range(80):
            chart = drawn_chart(seed)
            for start in (0, drawn_start(seed, chart), (1 << chart[0][1]) - 1):
                self.assert_shut(True, chart, start, *least(chart, start))

    def test_the_costs_of_inner_and_front(self):
        for seed in range(40):
            chart = drawn_chart(seed)
            start = drawn_start(seed, chart)
            self.assert_shut(True, chart, start, *told(chart, start))
        for seed in range(3):
            for full in (10, 3):
                chart = largest_chart(seed, full=full)
                self.assert_shut(True, chart, 63, *told(chart, 63))

    def test_one_cost_greater_or_a_key_that_lacks(self):
        for seed in range(25):
            chart = drawn_chart(seed, edges=9)
            start = (1 << chart[0][1]) - 1
            inside, places = least(chart, start)
            for key, cost in inside.items():
                self.assert_shut(False, chart, start, {**inside, key: cost + 1}, places)
                self.assert_shut(False, chart, start, {k: c for k, c in inside.items() if k != key}, places)
            for key, cost in places.items():
                self.assert_shut(False, chart, start, inside, {**places, key: cost + 1})
                self.assert_shut(False, chart, start, inside, {k: c for k, c in places.items() if k != key})

    def test_one_cost_less(self):
        seen = {True: 0, False: 0}
        for seed in range(150):
            chart = drawn_chart(seed, functions=2, places=3, facts=2, edges=10, full=6)
            start = drawn_start(seed, chart)
            inside, places = least(chart, start)
            changed = [({**inside, key: cost - 1}, places) for key, cost in inside.items() if cost > 0]
            changed += [(inside, {**places, key: cost - 1}) for key, cost in places.items() if cost > 0]
            for parts in changed:
                wanted = plain_shut(chart, start, *parts)
                self.assert_shut(wanted, chart, start, *parts)
                seen[wanted] += 1
        self.assertGreater(min(seen.values()), 50, seen)

    def test_keys_told_besides(self):
        seen = {True: 0, False: 0}
        for seed in range(40):
            chart = drawn_chart(seed, functions=2, places=3, facts=2, edges=6, full=3)
            start = drawn_start(seed, chart)
            inside, places = least(chart, start)
            more_inside, more_places = all_keys(chart)
            changed = [({**inside, key: 2}, places) for key in more_inside if key not in inside]
            changed += [(inside, {**places, key: 2}) for key in more_places if key not in places]
            for parts in changed:
                wanted = plain_shut(chart, start, *parts)
                self.assert_shut(wanted, chart, start, *parts)
                seen[wanted] += 1
        self.assertGreater(min(seen.values()), 50, seen)


class NothingChanged(ShutCase):
    def test_what_is_handed_in_stays(self):
        for seed in range(10):
            chart = drawn_chart(seed)
            inside, places = least(chart, 1)
            before = copy.deepcopy((chart, inside, places))
            self.assert_shut(True, chart, 1, inside, places)
            self.assertEqual((chart, inside, places), before)
            self.assert_shut(False, chart, 1, {}, places)
            self.assertEqual((chart, inside, places), before)
            self.assert_shut(True, chart, 1, inside, places)


if __name__ == "__main__":
    unittest.main()
