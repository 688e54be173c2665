"""Charts checked and turned: points 6, 7 and 8, and 2 over them."""

import copy
import unittest

from callmatch.charts import checked, turned_chart
from callmatch.errors import NoChart

MOST_COST = 10 ** 18

# Of unlike numbers of places and facts, so that each number has to be held against the right function.
STEP = ("step", 0, 2, 7, (3, 2))
CALL = ("call", 1, 2, 5, 1, (7, 4), (3, 0, 2), (2, 1))
INNER_STEP = ("step", 3, 0, MOST_COST, (7, 0, 4))
INNER_CALL = ("call", 0, 3, 1, 0, (1, 2, 3), (7, 5), (4, 2, 1))


def sample():
    return [(3, 2, [STEP, CALL]), (4, 3, [INNER_STEP, INNER_CALL])]


def with_edge(edge):
    """The sample with the edge as the second one of its first function."""
    return [(3, 2, [STEP, edge]), (4, 3, [INNER_STEP, INNER_CALL])]


def with_inner_edge(edge):
    return [(3, 2, [STEP, CALL]), (4, 3, [INNER_STEP, edge])]


def changed(edge, index, value):
    return edge[:index] + (value,) + edge[index + 1:]


def plain_function(places=1, facts=1, edges=0):
    return (places, facts, [("step", 0, 0, 1, (1,) * facts)] * edges)


class ChartCase(unittest.TestCase):
    def assert_let_by(self, chart):
        self.assertEqual(checked(chart), chart)

    def assert_refused(self, chart, function, edge):
        before = copy.deepcopy(chart)
        with self.assertRaises(NoChart, msg=chart) as caught:
            checked(chart)
        self.assertEqual((caught.exception.function, caught.exception.edge), (function, edge), chart)
        self.assertEqual(chart, before)

    def assert_edge(self, make, edge, right):
        """make puts the edge into a chart, as the second one of function 0 or 1."""
        if right:
            self.assert_let_by(make(edge))
        else:
            self.assert_refused(make(edge), 0 if make is with_edge else 1, 1)


class LetBy(ChartCase):
    def test_the_sample(self):
        told = checked(sample())
        self.assertEqual(told, sample())
        self.assertIs(type(told), list)
        for function in told:
            self.assertIs(type(function), tuple)
            self.assertIs(type(function[2]), list)
            for edge in function[2]:
                self.assertIs(type(edge), tuple)

    def test_edges_to_an_entry_and_from_an_exit(self):
        self.assert_let_by([(2, 1, [("step", 1, 0, 1, (1,)), ("step", 1, 1, 1, (0,)), ("step", 0, 0, 1, (1,))])])

    def test_a_function_that_calls_itself(self):
        self.assert_let_by([(1, 1, [("call", 0, 0, 1, 0, (1,), (1,), (1,))])])


class Functions(ChartCase):
    def test_how_many(self):
        self.assert_refused([], -1, -1)
        for many in range(1, 7):
            self.assert_let_by([plain_function()] * many)
        self.assert_refused([plain_function()] * 7, -1, -1)
        self.assert_refused([plain_function()] * 8, -1, -1)

    def test_seven_come_ahead_of_a_wrong_one(self):
        self.assert_refused([plain_function(places=0)] * 7, -1, -1)

    def test_places(self):
        for places, right in ((-1, False), (0, False), (1, True), (10, True), (11, False), (10 ** 20, False)):
            for ahead in (0, 2):
                chart = [plain_function()] * ahead + [plain_function(places=places), plain_function()]
                if right:
                    self.assert_let_by(chart)
                else:
                    self.assert_refused(chart, ahead, -1)

    def test_facts(self):
        for facts, right in ((-1, False), (0, False), (1, True), (6, True), (7, False), (10 ** 20, False)):
            for ahead in (0, 2):
                chart = [plain_function()] * ahead + [(1, facts, []), plain_function()]
                if right:
                    self.assert_let_by(chart)
                else:
                    self.assert_refused(chart, ahead, -1)

    def test_the_first_of_two_wrong_ones(self):
        self.assert_refused([plain_function(), (1, 7, []), (0, 1, [])], 1, -1)
        self.assert_refused([plain_function(), (0, 1, []), (1, 7, [])], 1, -1)

    def test_a_wrong_function_behind_a_wrong_edge(self):
        wrong = (2, 1, [("step", 0, 2, 1, (1,))])
        self.assert_refused([wrong, (11, 1, [])], 1, -1)
        self.assert_refused([wrong, (1, 0, [])], 1, -1)
        self.assert_refused([wrong, (1, 1, [])], 0, 0)

    def test_a_wrong_function_behind_the_25th_edge(self):
        self.assert_refused([plain_function(edges=25), (0, 1, [])], 1, -1)


class Numbers(ChartCase):
    def test_places_of_edges(self):
        for make, edge, places in (
            (with_edge, STEP, 3),
            (with_edge, CALL, 3),
            (with_inner_edge, INNER_STEP, 4),
            (with_inner_edge, INNER_CALL, 4),
        ):
            for index in (1, 2):
                for place in range(places):
                    self.assert_edge(make, changed(edge, index, place), True)
                for place in (-1, -places, places, places + 1, 10 ** 20):
                    self.assert_edge(make, changed(edge, index, place), False)

    def test_cost(self):
        for make, edge in ((with_edge, STEP), (with_edge, CALL), (with_inner_edge, INNER_CALL)):
            for cost in (1, 2, MOST_COST - 1, MOST_COST):
                self.assert_edge(make, changed(edge, 3, cost), True)
            for cost in (-1, 0, MOST_COST + 1, 10 ** 30):
                self.assert_edge(make, changed(edge, 3, cost), False)

    def test_the_called_function(self):
        # Functions alike in their facts, so that the tables suit whichever one is called.
        for many in (1, 2, 6):
            for g in (-many - 1, -many, -1, 0, many - 1, many, many + 1, 10 ** 20):
                chart = [plain_function(edges=1)] * many
                chart[-1] = (1, 1, [("call", 0, 0, 1, g, (0,), (0,), (0,))])
                if 0 <= g < many:
                    self.assert_let_by(chart)
                else:
                    self.assert_refused(chart, many - 1, 0)

    def test_a_sort_that_is_neither(self):
        self.assert_edge(with_edge, changed(STEP, 0, "over"), False)
        self.assert_edge(with_edge, changed(CALL, 0, "in"), False)


class Tables(ChartCase):
    def assert_table(self, make, edge, index, n, to):
        """The table at this index must be one of n facts, to so many facts."""
        for many in range(n + 3):
            self.assert_edge(make, changed(edge, index, (0,) * many), many == n)
        for d in range(n):
            for mask, right in ((-1, False), (0, True), ((1 << to) - 1, True), (1 << to, False), (10 ** 20, False)):
                table = changed((0,) * n, d, mask)
                self.assert_edge(make, changed(edge, index, table), right)

    def test_a_steps_table(self):
        self.assert_table(with_edge, STEP, 4, 2, 2)
        self.assert_table(with_inner_edge, INNER_STEP, 4, 3, 3)

    def test_into_is_to_the_called_functions_facts(self):
        self.assert_table(with_edge, CALL, 5, 2, 3)
        self.assert_table(with_inner_edge, INNER_CALL, 5, 3, 2)

    def test_back_is_to_the_calling_functions_facts(self):
        self.assert_table(with_edge, CALL, 6, 3, 2)
        self.assert_table(with_inner_edge, INNER_CALL, 6, 2, 3)

    def test_over_is_to_the_calling_functions_facts(self):
        self.assert_table(with_edge, CALL, 7, 2, 2)
        self.assert_table(with_inner_edge, INNER_CALL, 7, 3, 3)

    def test_the_called_function_may_stand_ahead_or_behind(self):
        one, six = (2,), (63,) * 6
        ahead = ("call", 0, 0, 1, 0, (1,) * 6, (63,), six)
        behind = ("call", 0, 0, 1, 1, (63,), (1,) * 6, (1,))
        self.assert_let_by([(1, 1, [behind]), (1, 6, [ahead])])
        self.assert_refused([(1, 1, [changed(behind, 7, one)]), (1, 6, [ahead])], 0, 0)
        self.assert_refused([(1, 1, [behind]), (1, 6, [changed(ahead, 5, (2,) * 6)])], 1, 0)


class WhichEdge(ChartCase):
    WRONG = ("step", 0, 0, 0, (1,))

    def test_the_first_of_two(self):
        right = ("step", 0, 0, 1, (1,))
        self.assert_refused([(1, 1, [right, self.WRONG, self.WRONG])], 0, 1)
        self.assert_refused([(1, 1, [right]), (1, 1, [right, right, self.WRONG]), (1, 1, [self.WRONG])], 1, 2)

    def test_24_in_one_function(self):
        self.assert_let_by([plain_function(edges=24)])
        self.assert_refused([plain_function(edges=25)], 0, 24)
        self.assert_refused([plain_function(edges=30)], 0, 24)

    def test_24_over_several(self):
        self.assert_let_by([plain_function(edges=4)] * 6)
        self.assert_let_by([plain_function(edges=20), plain_function(), plain_function(edges=4)])
        self.assert_refused([plain_function(edges=20), plain_function(), plain_function(edges=5)], 2, 4)
        self.assert_refused([plain_function(edges=24), plain_function(), plain_function(edges=1)], 2, 0)
        self.assert_refused([plain_function(edges=5)] * 6, 4, 4)

    def test_calls_are_counted_too(self):
        call = ("call", 0, 0, 1, 0, (1,), (1,), (1,))
        self.assert_let_by([(1, 1, [call] * 24)])
        self.assert_refused([(1, 1, [call] * 25)], 0, 24)

    def test_a_wrong_one_ahead_of_the_25th(self):
        edges = plain_function(edges=26)[2]
        for k in (0, 23):
            self.assert_refused([(1, 1, edges[:k] + [self.WRONG] + edges[k:])], 0, k)
        self.assert_refused([plain_function(edges=20), (1, 1, edges[:3] + [self.WRONG] + edges[:3])], 1, 3)

    def test_a_wrong_one_behind_the_25th(self):
        self.assert_refused([(1, 1, plain_function(edges=25)[2] + [self.WRONG])], 0, 24)
        self.assert_refused([plain_function(edges=25), (1, 1, [self.WRONG])], 0, 24)

    def test_a_wrong_25th(self):
        self.assert_refused([plain_function(edges=24), (1, 1, [self.WRONG])], 1, 0)


class TurnedCharts(ChartCase):
    def test_the_sample(self):
        wanted = [
            (3, 2, [
                ("step", 0, 2, 7, (1, 3)),
                ("call", 0, 1, 5, 1, (1, 5), (1, 1, 3), (2, 1)),
            ]),
            (4, 3, [
                ("step", 3, 0, MOST_COST, (1, 1, 5)),
                ("call", 0, 3, 1, 0, (3, 1, 3), (5, 6), (4, 2, 1)),
            ]),
        ]
        self.assertEqual(turned_chart(sample()), wanted)
        self.assertEqual(checked(wanted), wanted)

    def test_places(self):
        for p in range(4):
            for q in range(4):
                for edge in (("step", p, q, 3, (1,)), ("call", p, q, 3, 0, (1,), (1,), (0,))):
                    turned = changed(changed(edge, 1, 3 - q), 2, 3 - p)
                    self.assertEqual(turned_chart([(4, 1, [edge])]), [(4, 1, [turned])])

    def test_a_function_of_one_place(self):
        chart = [(1, 2, [("step", 0, 0, 9, (2, 0)), ("call", 0, 0, 4, 0, (2, 2), (0, 1), (3, 0))])]
        wanted = [(1, 2, [("step", 0, 0, 9, (0, 1)), ("call", 0, 0, 4, 0, (2, 0), (0, 3), (1, 1))])]
        self.assertEqual(turned_chart(chart), wanted)

    def test_one_fact_calls_six(self):
        chart = [(2, 1, [("call", 0, 1, 1, 1, (42,), (1, 0, 0, 1, 1, 0), (1,))]), (1, 6, [])]
        wanted = [(2, 1, [("call", 0, 1, 1, 1, (25,), (0, 1, 0, 1, 0, 1), (1,))]), (1, 6, [])]
        self.assertEqual(turned_chart(chart), wanted)

    def test_six_facts_call_one(self):
        over = (32, 16, 8, 4, 2, 3)
        chart = [(2, 6, [("call", 0, 1, 1, 1, (1, 0, 0, 0, 0, 1), (6,), over)]), (1, 1, [])]
        wanted = [(2, 6, [("call", 0, 1, 1, 1, (0, 1, 1, 0, 0, 0), (33,), (32, 48, 8, 4, 2, 1))]), (1, 1, [])]
        self.assertEqual(turned_chart(chart), wanted)

    def test_no_edges(self):
        self.assertEqual(turned_chart([(10, 6, []), (1, 1, [])]), [(10, 6, []), (1, 1, [])])

    def test_orders_and_numbers_stay(self):
        edges = [("step", 0, 1, cost, (1,)) for cost in range(1, 9)]
        told = turned_chart([(2, 1, edges), (3, 1, edges), (5, 2, [])])
        self.assertEqual([function[:2] for function in told], [(2, 1), (3, 1), (5, 2)])
        for function in told[:2]:
            self.assertEqual([edge[3] for edge in function[2]], list(range(1, 9)))

    def test_twice_is_the_chart_again(self):
        six = ("call", 0, 1, 1, 1, (1, 0, 0, 0, 0, 1), (6,), (32, 16, 8, 4, 2, 3))
        for chart in (sample(), [(2, 6, [six]), (1, 1, [])], [plain_function(places=10, facts=6, edges=24)]):
            self.assertEqual(turned_chart(turned_chart(chart)), chart)


class OwnLists(unittest.TestCase):
    def test_what_is_handed_in_stays(self):
        for ask in (checked, turned_chart):
            chart = sample()
            lists = [function[2] for function in chart]
            ask(chart)
            self.assertEqual(chart, sample())
            for function, edges in zip(chart, lists):
                self.assertIs(function[2], edges)

    def test_what_is_told_is_the_askers_own(self):
        for ask in (checked, turned_chart):
            chart = sample()
            wanted = ask(sample())
            told = ask(chart)
            told[0][2].clear()
            told[1][2].append(STEP)
            told.pop()
            self.assertEqual(chart, sample())
            self.assertEqual(ask(chart), wanted)

    def test_what_is_done_to_the_chart_later_changes_nothing(self):
        for ask in (checked, turned_chart):
            chart = sample()
            told = ask(chart)
            chart[0][2].pop()
            chart[1][2].append(STEP)
            chart.append(plain_function())
            self.assertEqual(told, ask(sample()))

    def test_functions_that_share_a_list_get_one_each(self):
        edges = [("step", 0, 0, 1, (1,))]
        for ask in (checked, turned_chart):
            told = ask([(1, 1, edges), (1, 1, edges)])
            told[0][2].clear()
            self.assertEqual(told[1][2], edges)


if __name__ == "__main__":
    unittest.main()
