"""Ways walked: points 9 and 10, and 2 over them."""

import copy
import unittest

from callmatch.charts import checked
from callmatch.errors import CallError, NoWay
from callmatch.ways import walked

# Function 0 has a ring, a step that parts a fact in two, and edges that leave its exit and its later places;
# function 1 has one place, so that its entry is its exit; function 2 calls itself, and 0 and 1.
CHART = [
    (3, 2, [
        ("step", 0, 1, 4, (3, 0)),
        ("call", 1, 2, 10, 1, (0, 5), (2, 1, 0), (1, 0)),
        ("step", 2, 0, 100, (1, 1)),
        ("call", 0, 1, 1000, 2, (1, 2), (1, 3), (2, 2)),
    ]),
    (1, 3, [
        ("step", 0, 0, 7, (2, 4, 0)),
    ]),
    (4, 2, [
        ("step", 0, 3, 3, (1, 2)),
        ("call", 0, 1, 20, 2, (2, 1), (3, 2), (1, 2)),
        ("step", 1, 3, 5, (2, 1)),
        ("call", 3, 2, 30, 1, (4, 1), (0, 1, 2), (0, 0)),
        ("call", 2, 3, 40, 0, (1, 3), (1, 2), (3, 0)),
    ]),
]
BOTH = 3
FAR = 10 ** 20


class WayCase(unittest.TestCase):
    def assert_walked(self, fact, moves, wanted, chart=CHART, start=BOTH):
        told = walked(chart, start, fact, moves)
        self.assertEqual(told, wanted)
        self.assertIs(type(told), tuple)
        self.assertEqual([type(number) for number in told], [int] * 5)

    def assert_refused(self, fact, moves, at, chart=CHART, start=BOTH):
        with self.assertRaises(NoWay, msg=(fact, moves)) as caught:
            walked(chart, start, fact, moves)
        self.assertEqual(caught.exception.at, at, (fact, moves))
        self.assertIsInstance(caught.exception, CallError)


class Walked(WayCase):
    def test_the_chart_is_let_by(self):
        self.assertEqual(checked(CHART), CHART)

    def test_no_moves(self):
        for fact in (0, 1):
            self.assert_walked(fact, [], (0, 0, fact, 0, 0))
        self.assert_walked(5, [], (0, 0, 5, 0, 0), chart=[(1, 6, [])], start=32)

    def test_a_step(self):
        self.assert_walked(0, [("step", 0, 0)], (0, 1, 0, 4, 0))
        self.assert_walked(0, [("step", 0, 1)], (0, 1, 1, 4, 0))

    def test_an_over(self):
        self.assert_walked(0, [("over", 3, 1)], (0, 1, 1, 1000, 0))
        self.assert_walked(1, [("over", 3, 1)], (0, 1, 1, 1000, 0))

    def test_an_in(self):
        self.assert_walked(0, [("in", 3, 0)], (2, 0, 0, 1000, 1))
        self.assert_walked(1, [("in", 3, 1)], (2, 0, 1, 1000, 1))

    def test_an_out(self):
        chart = [(2, 2, [("call", 0, 1, 6, 1, (1, 1), (2,), (0, 0))]), (1, 1, [])]
        self.assert_walked(0, [("in", 0, 0), ("out", 1)], (0, 1, 1, 6, 0), chart=chart)

    def test_an_out_goes_by_back_of_the_call_in_its_function(self):
        moves = [("step", 0, 1), ("in", 1, 0)]
        self.assert_walked(0, moves, (1, 0, 0, 14, 1))
        self.assert_walked(0, moves + [("out", 1)], (0, 2, 1, 14, 0))
        self.assert_walked(0, moves + [("step", 0, 1), ("out", 0)], (0, 2, 0, 21, 0))

    def test_calls_within_calls_are_shut_in_the_other_order(self):
        moves = [("in", 3, 0), ("step", 0, 0), ("in", 3, 2)]
        self.assert_walked(0, moves, (1, 0, 2, 1033, 2))
        moves += [("out", 1)]
        self.assert_walked(0, moves, (2, 2, 1, 1033, 1))
        moves += [("in", 4, 1)]
        self.assert_walked(0, moves, (0, 0, 1, 1073, 2))
        moves += [("over", 3, 1), ("in", 1, 2)]
        self.assert_walked(0, moves, (1, 0, 2, 2083, 3))

    def test_each_out_goes_back_to_its_own_call(self):
        # Two calls of one function from one place, that go on elsewhere with another fact.
        calls = [("call", 0, q, 1, 0, (1, 0, 0), (1 << q,) * 3, (0, 0, 0)) for q in (1, 2)]
        chart = [(4, 3, calls + [("step", p, 3, 1, (1, 2, 4)) for p in range(3)])]
        into = [("in", 0, 0), ("in", 1, 0), ("step", 2, 0)]
        self.assert_walked(0, into + [("out", 2)], (0, 2, 2, 3, 1), chart=chart, start=1)
        self.assert_refused(0, into + [("out", 1)], 4, chart=chart, start=1)
        on = into + [("out", 2), ("step", 4, 2)]
        self.assert_walked(0, on + [("out", 1)], (0, 1, 1, 4, 0), chart=chart, start=1)
        self.assert_refused(0, on + [("out", 2)], 6, chart=chart, start=1)
        self.assert_refused(0, on + [("out", 1), ("step", 3, 1), ("out", 1)], 8, chart=chart, start=1)

    def test_a_call_of_the_function_itself(self):
        moves = [("in", 3, 0), ("in", 1, 1), ("in", 1, 0), ("step", 0, 0), ("out", 1)]
        self.assert_walked(0, moves, (2, 1, 1, 1043, 2))
        moves += [("step", 2, 0), ("out", 0)]
        self.assert_walked(0, moves, (2, 1, 0, 1048, 1))
        moves += [("step", 2, 1), ("out", 0)]
        self.assert_walked(0, moves, (0, 1, 0, 1053, 0))

    def test_an_exit_from_which_edges_lead_on(self):
        at_exit = [("in", 3, 1), ("step", 0, 1)]
        self.assert_walked(1, at_exit + [("out", 1)], (0, 1, 1, 1003, 0))
        self.assert_walked(1, at_exit + [("in", 3, 0), ("step", 0, 1)], (1, 0, 1, 1040, 2))
        on = at_exit + [("in", 3, 0), ("step", 0, 1), ("out", 0)]
        self.assert_walked(1, on, (2, 2, 0, 1040, 1))
        self.assert_walked(1, on + [("over", 4, 1), ("out", 0)], (0, 1, 0, 1080, 0))
        self.assert_walked(0, [("step", 0, 0), ("over", 1, 0), ("step", 2, 0)], (0, 0, 0, 114, 0))

    def test_a_function_of_one_place(self):
        chart = [(1, 2, [("call", 0, 0, 5, 0, (2, 1), (2, 1), (2, 0)), ("step", 0, 0, 1, (1, 3))])]
        moves = [("in", 0, 1), ("in", 0, 0), ("out", 1), ("step", 1, 0), ("over", 0, 1)]
        self.assert_walked(0, moves, (0, 0, 1, 16, 1), chart=chart)
        self.assert_walked(0, moves + [("out", 0)], (0, 0, 0, 16, 0), chart=chart)
        self.assert_refused(0, moves + [("out", 0), ("out", 0)], 7, chart=chart)

    def test_costs_are_added_up(self):
        most = 10 ** 18
        chart = [(1, 1, [("step", 0, 0, most, (1,)), ("call", 0, 0, most - 1, 0, (1,), (1,), (1,))])]
        moves = [("step", 0, 0), ("over", 1, 0), ("in", 1, 0), ("out", 0)] * 100
        self.assert_walked(0, moves, (0, 0, 0, 300 * most - 200, 0), chart=chart)

    def test_400_moves(self):
        chart = [(1, 1, [("call", 0, 0, 3, 0, (1,), (1,), (1,))])]
        ins, outs = [("in", 0, 0)], [("out", 0)]
        self.assert_walked(0, ins * 400, (0, 0, 0, 1200, 400), chart=chart)
        self.assert_walked(0, ins * 200 + outs * 200, (0, 0, 0, 600, 0), chart=chart)
        self.assert_walked(0, ins * 201 + outs * 199, (0, 0, 0, 603, 2), chart=chart)
        self.assert_refused(0, ins * 199 + outs * 201, 399, chart=chart)
        self.assert_refused(0, ins * 199 + outs * 200, 399, chart=chart)
        self.assert_walked(0, (ins + outs) * 3000, (0, 0, 0, 9000, 0), chart=chart)


class NoWays(WayCase):
    def test_the_first_fact(self):
        for fact in (-1, -2, -FAR, 2, 3, 5, 6, FAR):
            self.assert_refused(fact, [], 0)
            self.assert_refused(fact, [("step", 0, 0)], 0)
        self.assert_refused(1, [], 0, start=1)
        self.assert_refused(0, [], 0, start=2)
        self.assert_refused(0, [], 0, start=0)
        self.assert_refused(-1, [("step", 0, -1)], 0, start=0)
        for fact in (-1, 6, 7, FAR):
            self.assert_refused(fact, [], 0, chart=[(1, 6, [])], start=63)

    def test_numbers_of_edges(self):
        for sort in ("step", "over", "in"):
            for n in (-1, -2, -4, -5, -FAR, 4, 5, FAR):
                for e in (0, 1):
                    self.assert_refused(0, [(sort, n, e)], 1)
                    self.assert_refused(1, [("over", 3, 1), (sort, n, e)], 2)

    def test_the_last_edge_is_counted_by_the_function_that_one_is_in(self):
        inside = [("in", 3, 0)]
        for n in (-1, 5, 6):
            self.assert_refused(0, inside + [("step", n, 0)], 2)
        deeper = inside + [("step", 0, 0), ("in", 3, 2)]
        for n in (-1, 1, 2):
            self.assert_refused(0, deeper + [("step", n, 0)], 4)

    def test_edges_of_the_other_sort(self):
        # All tables bring each fact to each one, so that nothing but the sort is wrong.
        chart = [(1, 2, [("step", 0, 0, 1, (3, 3)), ("call", 0, 0, 1, 0, (3, 3), (3, 3), (3, 3))])]
        for e in (0, 1):
            self.assert_refused(0, [("step", 1, e)], 1, chart=chart)
            self.assert_refused(0, [("over", 0, e)], 1, chart=chart)
            self.assert_refused(0, [("in", 0, e)], 1, chart=chart)

    def test_edges_from_another_place(self):
        full = (3, 3)
        calls = [("call", p, 0, 1, 0, full, full, full) for p in range(3)]
        chart = [(3, 2, [("step", p, 0, 1, full) for p in range(3)] + calls)]
        for p in (1, 2):
            self.assert_refused(0, [("step", p, 0)], 1, chart=chart)
            self.assert_refused(0, [("over", 3 + p, 0)], 1, chart=chart)
            self.assert_refused(0, [("in", 3 + p, 0)], 1, chart=chart)
        for sort, n in (("step", 0), ("over", 3), ("in", 3)):
            self.assert_walked(0, [(sort, n, 0)], (0, 0, 0, 1, 1 if sort == "in" else 0), chart=chart)
        self.assert_refused(0, [("step", 0, 0), ("step", 2, 0)], 2)
        self.assert_refused(0, [("step", 0, 0), ("in", 3, 0)], 2)
        self.assert_refused(0, [("step", 0, 0), ("over", 3, 1)], 2)

    def test_facts_that_are_none(self):
        full = (3, 3)
        chart = [(1, 2, [("step", 0, 0, 1, full), ("call", 0, 0, 1, 0, full, full, full)])]
        for e in (-1, -2, -FAR, 2, 3, 6, 64, FAR):
            self.assert_refused(0, [("step", 0, e)], 1, chart=chart)
            self.assert_refused(0, [("over", 1, e)], 1, chart=chart)
            self.assert_refused(0, [("in", 1, e)], 1, chart=chart)
            self.assert_refused(0, [("in", 1, 0), ("out", e)], 2, chart=chart)

    def test_facts_are_counted_by_the_function_come_to(self):
        chart = [(1, 1, [("call", 0, 0, 1, 1, (63,), (1,) * 6, (1,))]), (1, 6, [])]
        self.assert_walked(0, [("in", 0, 5)], (1, 0, 5, 1, 1), chart=chart, start=1)
        self.assert_refused(0, [("in", 0, 6)], 1, chart=chart, start=1)
        self.assert_walked(0, [("in", 0, 5), ("out", 0)], (0, 0, 0, 1, 0), chart=chart, start=1)
        self.assert_refused(0, [("in", 0, 5), ("out", 1)], 2, chart=chart, start=1)
        self.assert_refused(0, [("in", 0, 5), ("out", 5)], 2, chart=chart, start=1)

    def test_facts_that_the_table_does_not_bring(self):
        self.assert_refused(1, [("step", 0, 0)], 1)
        self.assert_refused(1, [("step", 0, 1)], 1)
        self.assert_refused(0, [("over", 3, 0)], 1)
        self.assert_refused(0, [("in", 3, 1)], 1)
        self.assert_refused(1, [("in", 3, 0)], 1)
        for e in (0, 1):
            self.assert_refused(0, [("step", 0, 1), ("in", 1, 2), ("out", e)], 3)
        self.assert_refused(0, [("step", 0, 1), ("in", 1, 0), ("out", 0)], 3)

    def test_each_move_goes_by_its_own_table(self):
        names = ("over", "in", "out")
        for right in range(3):
            into, back, over = [(2, 2) if k == right else (1, 1) for k in (1, 2, 0)]
            chart = [(1, 2, [("call", 0, 0, 1, 0, into, back, over)])]
            for k, name in enumerate(names):
                e = 1 if k == right else 0
                ahead = [("in", 0, 1 if right == 1 else 0)] if name == "out" else []
                for fact, wanted in ((e, True), (1 - e, False)):
                    move = ("out", fact) if name == "out" else (name, 0, fact)
                    if wanted:
                        walked(chart, 1, 0, ahead + [move])
                    else:
                        self.assert_refused(0, ahead + [move], len(ahead) + 1, chart=chart, start=1)

    def test_an_out_where_no_call_is_open(self):
        for e in (-1, 0, 1, FAR):
            self.assert_refused(0, [("out", e)], 1, chart=[(1, 2, [])])
            self.assert_refused(0, [("step", 0, 0), ("over", 1, 0), ("out", e)], 3)

    def test_an_out_at_a_place_that_is_no_exit(self):
        for e in (-1, 0, 1, FAR):
            self.assert_refused(0, [("in", 3, 0), ("out", e)], 2)
            self.assert_refused(0, [("in", 3, 0), ("over", 1, 0), ("out", e)], 3)

    def test_the_exit_is_that_of_the_function_that_one_is_in(self):
        # The calling function's exit has the number of a place in the midst of the called one, and turned about.
        full = (1,)
        long, brief = (5, 1), (3, 1)
        for outer, inner in ((long, brief), (brief, long)):
            steps = [("step", p, p + 1, 1, full) for p in range(inner[0] - 1)]
            chart = [outer + ([("call", 0, 1, 1, 1, full, full, full)],), inner + (steps,)]
            for many in range(inner[0]):
                moves = [("in", 0, 0)] + [("step", p, 0) for p in range(many)] + [("out", 0)]
                if many == inner[0] - 1:
                    self.assert_walked(0, moves, (0, 1, 0, many + 1, 0), chart=chart, start=1)
                else:
                    self.assert_refused(0, moves, many + 2, chart=chart, start=1)

    def test_the_first_wrong_move_is_told(self):
        right = [("over", 3, 1), ("in", 1, 0)]
        wrong = [("step", -1, 0), ("out", FAR), ("in", FAR, 0), ("over", 0, 0)]
        for many in range(3):
            for first in wrong:
                for behind in ([], wrong, right, right + wrong):
                    self.assert_refused(0, right[:many] + [first] + behind, many + 1)

    def test_far_along(self):
        chart = [(1, 1, [("step", 0, 0, 1, (1,))])]
        right, wrong = ("step", 0, 0), ("step", 1, 0)
        for at in (1, 2, 200, 399, 400):
            moves = [right] * 400
            moves[at - 1] = wrong
            self.assert_refused(0, moves, at, chart=chart, start=1)
            moves[-1] = wrong
            self.assert_refused(0, moves, at, chart=chart, start=1)


class NothingChanged(WayCase):
    def test_what_is_handed_in_stays(self):
        chart = copy.deepcopy(CHART)
        moves = [("in", 3, 0), ("in", 1, 1), ("in", 1, 0), ("step", 0, 0), ("out", 1)]
        before = list(moves)
        first = walked(chart, BOTH, 0, moves)
        self.assertEqual((chart, moves), (CHART, before))
        self.assertEqual(walked(chart, BOTH, 0, moves), first)
        moves.append(("out", FAR))
        with self.assertRaises(NoWay):
            walked(chart, BOTH, 0, moves)
        self.assertEqual((chart, moves), (CHART, before + [("out", FAR)]))


if __name__ == "__main__":
    unittest.main()
