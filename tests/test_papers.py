"""What papers claim: points 11 and 12, and 2 over them."""

import copy
import unittest

from callmatch.charts import checked
from callmatch.errors import CallError, NoPaper
from callmatch.papers import claims

# Function 0 calls 1 and itself; function 1 calls itself, and has an exit that is not its entry; 2 has one place.
CHART = [
    (3, 2, [
        ("step", 0, 1, 4, (3, 2)),
        ("call", 1, 2, 10, 1, (4, 1), (1, 0, 2), (2, 1)),
        ("call", 2, 0, 100, 0, (2, 1), (3, 2), (1, 3)),
    ]),
    (2, 3, [
        ("step", 0, 1, 7, (1, 0, 6)),
        ("call", 0, 1, 20, 1, (4, 4, 0), (0, 3, 4), (0, 2, 0)),
        ("call", 1, 0, 30, 2, (1, 0, 1), (5,), (0, 0, 1)),
    ]),
    (1, 1, [
        ("step", 0, 0, 2, (1,)),
    ]),
]
BOTH = 3
FAR = 10 ** 20

# One of each sort at least, each of them used further on; written beside is the number and the claim.
ROWS = [
    ("begin", 0, 0),        # 0: within 0 from 0, at 0 with 0, cost 0
    ("begin", 1, 2),        # 1: within 1 from 2, at 0 with 2, cost 0
    ("step", 0, 0, 0),      # 2: within 0 from 0, at 1 with 0, cost 4
    ("step", 1, 0, 2),      # 3: within 1 from 2, at 1 with 2, cost 7
    ("over", 2, 1, 1),      # 4: within 0 from 0, at 2 with 1, cost 14
    ("short", 2, 1, 3, 1),  # 5: within 0 from 0, at 2 with 1, cost 21
    ("start", 0),           # 6: at 0 of 0 with 0, cost 0
    ("along", 6, 2),        # 7: at 1 of 0 with 0, cost 4
    ("in", 7, 1, 2),        # 8: at 0 of 1 with 2, cost 14
    ("along", 8, 3),        # 9: at 1 of 1 with 2, cost 21
    ("begin", 2, 0),        # 10: within 2 from 0, at 0 with 0, cost 0
    ("step", 10, 0, 0),     # 11: within 2 from 0, at 0 with 0, cost 2
    ("in", 9, 2, 0),        # 12: at 0 of 2 with 0, cost 51
    ("along", 12, 11),      # 13: at 0 of 2 with 0, cost 53
    ("along", 13, 11),      # 14: at 0 of 2 with 0, cost 55
]
CLAIMS = [
    ("within", 0, 0, 0, 0, 0),
    ("within", 1, 2, 0, 2, 0),
    ("within", 0, 0, 1, 0, 4),
    ("within", 1, 2, 1, 2, 7),
    ("within", 0, 0, 2, 1, 14),
    ("within", 0, 0, 2, 1, 21),
    ("at", 0, 0, 0, 0),
    ("at", 0, 1, 0, 4),
    ("at", 1, 0, 2, 14),
    ("at", 1, 1, 2, 21),
    ("within", 2, 0, 0, 0, 0),
    ("within", 2, 0, 0, 0, 2),
    ("at", 2, 0, 0, 51),
    ("at", 2, 0, 0, 53),
    ("at", 2, 0, 0, 55),
]


class PaperCase(unittest.TestCase):
    def assert_claims(self, rows, wanted, chart=CHART, start=BOTH):
        told = claims(chart, start, rows)
        self.assertEqual(told, wanted)
        self.assertIs(type(told), list)
        for claim in told:
            self.assertIs(type(claim), tuple)
            self.assertEqual([type(part) for part in claim], [str] + [int] * (len(claim) - 1))

    def assert_last(self, rows, claim, chart=CHART, start=BOTH):
        told = claims(chart, start, rows)
        self.assertEqual(len(told), len(rows))
        self.assertEqual(told[-1], claim)

    def assert_refused(self, rows, row, chart=CHART, start=BOTH):
        with self.assertRaises(NoPaper, msg=rows[row]) as caught:
            claims(chart, start, rows)
        self.assertEqual(caught.exception.row, row, rows)
        self.assertIsInstance(caught.exception, CallError)

    def assert_wrong(self, row, chart=CHART, start=BOTH):
        """Behind the rows, which are let by, this one isn't."""
        self.assert_refused(ROWS + [row], len(ROWS), chart, start)

    def assert_numbers(self, row, index, wrong):
        """The row stands right behind the rows, and wrong with each of the numbers at the index."""
        self.assertEqual(len(claims(CHART, BOTH, ROWS + [row])), len(ROWS) + 1)
        for number in wrong:
            self.assert_wrong(row[:index] + (number,) + row[index + 1:])


class Claims(PaperCase):
    def test_the_chart_is_let_by(self):
        self.assertEqual(checked(CHART), CHART)

    def test_each_sort(self):
        self.assert_claims(ROWS, CLAIMS)
        for many in range(len(ROWS)):
            self.assert_claims(ROWS[:many], CLAIMS[:many])

    def test_no_rows(self):
        self.assert_claims([], [])
        self.assert_claims([], [], start=0)

    def test_begin(self):
        for f, facts in enumerate((2, 3, 1)):
            for d in range(facts):
                self.assert_claims([("begin", f, d)], [("within", f, d, 0, d, 0)], start=0)

    def test_start(self):
        for d in (0, 1):
            self.assert_claims([("start", d)], [("at", 0, 0, d, 0)])
            self.assert_claims([("start", d)], [("at", 0, 0, d, 0)], start=1 << d)
        self.assert_claims([("start", 5)], [("at", 0, 0, 5, 0)], chart=[(1, 6, [])], start=32)

    def test_step_and_over_keep_the_first_fact(self):
        rows = [("begin", 0, 0), ("step", 0, 0, 1), ("over", 1, 1, 0), ("over", 2, 2, 0), ("step", 3, 0, 1)]
        self.assert_claims(rows, [
            ("within", 0, 0, 0, 0, 0),
            ("within", 0, 0, 1, 1, 4),
            ("within", 0, 0, 2, 0, 14),
            ("within", 0, 0, 0, 0, 114),
            ("within", 0, 0, 1, 1, 118),
        ])

    def test_a_short_by_another_function(self):
        rows = [("begin", 0, 1), ("step", 0, 0, 1), ("begin", 1, 0), ("step", 2, 0, 0), ("short", 1, 1, 3, 0)]
        self.assert_last(rows, ("within", 0, 1, 2, 0, 21))

    def test_a_short_by_a_longer_row_of_the_called_function(self):
        rows = [
            ("begin", 1, 2), ("step", 0, 0, 1), ("begin", 2, 0), ("step", 0, 0, 2), ("step", 2, 0, 0),
            ("short", 3, 2, 4, 2), ("step", 5, 0, 2),
        ]
        self.assert_last(rows, ("within", 1, 2, 1, 2, 46))
        rows += [("begin", 0, 0), ("step", 7, 0, 0), ("short", 8, 1, 6, 1)]
        self.assert_last(rows, ("within", 0, 0, 2, 1, 60))

    def test_a_short_by_the_function_itself(self):
        rows = [("begin", 1, 0), ("begin", 1, 2), ("step", 1, 0, 1), ("short", 0, 1, 2, 0)]
        self.assert_last(rows, ("within", 1, 0, 1, 0, 27))
        self.assert_last(rows[:3] + [("short", 0, 1, 2, 1)], ("within", 1, 0, 1, 1, 27))

    def test_a_short_by_one_row_twice(self):
        # The function has one place, so that a row of it is at its exit and can be called from there again.
        chart = [(1, 1, [("call", 0, 0, 3, 0, (1,), (1,), (1,))])]
        rows = [("begin", 0, 0), ("short", 0, 0, 0, 0), ("short", 1, 0, 1, 0), ("short", 2, 0, 2, 0)]
        self.assert_claims(rows, [("within", 0, 0, 0, 0, cost) for cost in (0, 3, 9, 21)], chart=chart)

    def test_a_short_by_an_entry_that_is_an_exit(self):
        rows = [("begin", 1, 2), ("step", 0, 0, 2), ("begin", 2, 0), ("short", 1, 2, 2, 2), ("short", 1, 2, 2, 0)]
        self.assert_claims(rows, [
            ("within", 1, 2, 0, 2, 0),
            ("within", 1, 2, 1, 2, 7),
            ("within", 2, 0, 0, 0, 0),
            ("within", 1, 2, 0, 2, 37),
            ("within", 1, 2, 0, 0, 37),
        ])

    def test_in_and_along_behind_it(self):
        rows = ROWS[:9] + [("step", 1, 0, 1), ("along", 8, 9), ("begin", 1, 2), ("along", 8, 11)]
        self.assert_last(rows, ("at", 1, 0, 2, 14))
        self.assert_last(rows[:11], ("at", 1, 1, 1, 21))

    def test_in_of_the_function_itself(self):
        rows = ROWS[:7] + [("along", 6, 4), ("in", 7, 2, 0), ("along", 8, 2)]
        self.assert_last(rows[:9], ("at", 0, 0, 0, 114))
        self.assert_last(rows, ("at", 0, 1, 0, 118))

    def test_an_along_that_comes_to_an_entry(self):
        rows = [("start", 0), ("begin", 0, 0), ("along", 0, 1), ("along", 2, 1)]
        self.assert_last(rows, ("at", 0, 0, 0, 0))
        rows = [("begin", 0, 0), ("step", 0, 0, 1), ("over", 1, 1, 0), ("over", 2, 2, 0), ("start", 0), ("along", 4, 3)]
        self.assert_last(rows, ("at", 0, 0, 0, 114))
        self.assert_last(rows + [("along", 5, 3)], ("at", 0, 0, 0, 228))

    def test_costs_beyond(self):
        most = 10 ** 18
        chart = [(1, 1, [("step", 0, 0, most, (1,)), ("call", 0, 0, most, 0, (1,), (1,), (1,))])]
        rows = [("begin", 0, 0), ("step", 0, 0, 0)]
        cost = most
        for k in range(1, 60):
            rows.append(("short", k, 1, k, 0))
            cost = 2 * cost + most
            self.assert_last(rows, ("within", 0, 0, 0, 0, cost), chart=chart)
        rows += [("start", 0), ("along", 61, 60), ("in", 62, 1, 0), ("along", 63, 60)]
        self.assert_last(rows, ("at", 0, 0, 0, 2 * cost + most), chart=chart)

    def test_3000_rows(self):
        chart = [(2, 2, [("step", 0, 0, 5, (2, 1)), ("step", 0, 1, 1, (1, 2))])]
        rows = [("begin", 0, 0)] + [("step", k, 0, 1 - k % 2) for k in range(2999)]
        self.assert_claims(rows, [("within", 0, 0, 0, k % 2, 5 * k) for k in range(3000)], chart=chart)
        self.assert_refused(rows + [("step", 2999, 0, 1)], 3000, chart=chart)
        self.assert_refused(rows + [("step", 3000, 0, 0)], 3000, chart=chart)


class Numbers(PaperCase):
    def test_begin(self):
        self.assert_numbers(("begin", 2, 0), 1, (-1, -3, -FAR, 3, 4, FAR))
        self.assert_numbers(("begin", 0, 0), 2, (-1, -2, -FAR, 2, 3, FAR))
        self.assert_numbers(("begin", 1, 2), 2, (-1, -3, -FAR, 3, 4, FAR))
        self.assert_numbers(("begin", 2, 0), 2, (-1, -FAR, 1, 2, FAR))

    def test_step(self):
        last = len(ROWS)
        self.assert_numbers(("step", 0, 0, 0), 1, (-1, -last, -FAR, last, last + 1, FAR))
        self.assert_numbers(("step", 0, 0, 0), 2, (-1, -3, -FAR, 3, 4, FAR))
        self.assert_numbers(("step", 0, 0, 0), 3, (-1, -2, -FAR, 2, 3, 6, FAR))
        self.assert_numbers(("step", 10, 0, 0), 2, (-1, 1, FAR))
        self.assert_numbers(("step", 10, 0, 0), 3, (-1, 1, FAR))

    def test_over(self):
        last = len(ROWS)
        self.assert_numbers(("over", 2, 1, 1), 1, (-1, -last, -13, -FAR, last, last + 1, FAR))
        self.assert_numbers(("over", 2, 1, 1), 2, (-1, -2, -FAR, 3, 4, FAR))
        self.assert_numbers(("over", 2, 1, 1), 3, (-1, -FAR, 2, 3, 6, FAR))

    def test_short(self):
        last = len(ROWS)
        right = ("short", 2, 1, 3, 1)
        self.assert_numbers(right, 1, (-1, -13, -FAR, last, last + 1, FAR))
        self.assert_numbers(right, 2, (-1, -2, -FAR, 3, 4, FAR))
        self.assert_numbers(right, 3, (-1, -12, -FAR, last, last + 1, FAR))
        self.assert_numbers(right, 4, (-1, -FAR, 2, 3, 6, FAR))

    def test_start(self):
        self.assert_numbers(("start", 1), 1, (-1, -2, -FAR, 2, 3, 6, FAR))
        for d in (-1, 6, 7, FAR):
            self.assert_refused([("start", d)], 0, chart=[(1, 6, [])], start=63)

    def test_in(self):
        last = len(ROWS)
        self.assert_numbers(("in", 7, 1, 2), 1, (-1, -8, -FAR, last, last + 1, FAR))
        self.assert_numbers(("in", 7, 1, 2), 2, (-1, -2, -FAR, 3, 4, FAR))
        self.assert_numbers(("in", 7, 1, 2), 3, (-1, -FAR, 3, 4, 6, FAR))

    def test_along(self):
        last = len(ROWS)
        self.assert_numbers(("along", 6, 2), 1, (-1, -9, -FAR, last, last + 1, FAR))
        self.assert_numbers(("along", 6, 2), 2, (-1, -13, -FAR, last, last + 1, FAR))

    def test_a_fact_of_the_calling_function_that_the_called_one_lacks(self):
        chart = [(1, 6, [("call", 0, 0, 1, 1, (1,) * 6, (63,), (63,) * 6)]), (1, 1, [("step", 0, 0, 1, (1,))])]
        ahead = [("start", 5), ("begin", 0, 5), ("begin", 1, 0)]
        self.assert_last(ahead + [("in", 0, 0, 0)], ("at", 1, 0, 0, 1), chart=chart, start=32)
        self.assert_refused(ahead + [("in", 0, 0, 1)], 3, chart=chart, start=32)
        self.assert_last(ahead + [("short", 1, 0, 2, 5)], ("within", 0, 5, 0, 5, 1), chart=chart, start=32)
        self.assert_refused(ahead + [("short", 1, 0, 2, 6)], 3, chart=chart, start=32)


class RowsAhead(PaperCase):
    def test_itself_and_rows_behind(self):
        chart = [(1, 1, [("step", 0, 0, 1, (1,)), ("call", 0, 0, 1, 0, (1,), (1,), (1,))])]
        ahead = [("begin", 0, 0), ("start", 0)]
        behind = [("begin", 0, 0), ("start", 0), ("begin", 0, 0), ("start", 0)]
        rights = [
            ("step", 0, 0, 0), ("over", 0, 1, 0), ("short", 0, 1, 0, 0), ("in", 1, 1, 0), ("along", 1, 0),
        ]
        for row in rights:
            self.assertEqual(len(claims(chart, 1, ahead + [row] + behind)), 7)
            named = {"short": (1, 3), "along": (1, 2)}.get(row[0], (1,))
            for index in named:
                for number in (2, 3, 4, 5, 6, 7):
                    wrong = row[:index] + (number,) + row[index + 1:]
                    self.assert_refused(ahead + [wrong] + behind, 2, chart=chart)

    def test_numbers_below_nought_do_not_count_from_the_end(self):
        chart = [(1, 1, [("step", 0, 0, 1, (1,)), ("call", 0, 0, 1, 0, (1,), (1,), (1,))])]
        withins, ats = [("begin", 0, 0)] * 3, [("start", 0)] * 3
        for number in (-1, -2, -3, -4):
            for row in (("step", number, 0, 0), ("over", number, 1, 0), ("short", number, 1, 0, 0)):
                self.assert_refused(withins + [row], 3, chart=chart)
            self.assert_refused(withins + [("short", 0, 1, number, 0)], 3, chart=chart)
            self.assert_refused(ats + [("in", number, 1, 0)], 3, chart=chart)
            self.assert_refused(withins + ats + [("along", number, 0)], 6, chart=chart)
            self.assert_refused(ats + withins + [("along", 0, number)], 6, chart=chart)

    def test_the_first_row_has_none_ahead(self):
        for row in (("step", 0, 0, 0), ("over", 0, 1, 0), ("short", 0, 1, 0, 0), ("in", 0, 1, 0), ("along", 0, 0)):
            self.assert_refused([row], 0)

    def test_claims_of_the_other_sort(self):
        # One place and one fact, and all tables full, so that nothing but the sort of claim is wrong.
        chart = [(1, 1, [("step", 0, 0, 1, (1,)), ("call", 0, 0, 1, 0, (1,), (1,), (1,))])]
        ahead = [("begin", 0, 0), ("start", 0)]
        wrong = [
            ("step", 1, 0, 0), ("over", 1, 1, 0), ("short", 1, 1, 0, 0), ("short", 0, 1, 1, 0), ("short", 1, 1, 1, 0),
            ("in", 0, 1, 0), ("along", 0, 0), ("along", 1, 1), ("along", 0, 1),
        ]
        for row in wrong:
            self.assert_refused(ahead + [row], 2, chart=chart, start=1)


class Edges(PaperCase):
    def test_of_the_other_sort(self):
        chart = [(1, 1, [("step", 0, 0, 1, (1,)), ("call", 0, 0, 1, 0, (1,), (1,), (1,))])]
        ahead = [("begin", 0, 0), ("start", 0)]
        for row in (("step", 0, 1, 0), ("over", 0, 0, 0), ("short", 0, 0, 0, 0), ("in", 1, 0, 0)):
            self.assert_refused(ahead + [row], 2, chart=chart, start=1)

    def test_from_another_place(self):
        full = (1,)
        calls = [("call", p, 0, 1, 1, full, full, full) for p in range(3)]
        chart = [(3, 1, [("step", p, 1, 1, full) for p in range(3)] + calls), (1, 1, [])]
        ahead = [("begin", 0, 0), ("step", 0, 0, 0), ("start", 0), ("along", 2, 1), ("begin", 1, 0)]
        for at, within, k in ((0, 0, 2), (1, 1, 3)):
            rows = [
                lambda p: ("step", within, p, 0),
                lambda p: ("over", within, 3 + p, 0),
                lambda p: ("short", within, 3 + p, 4, 0),
                lambda p: ("in", k, 3 + p, 0),
            ]
            for row in rows:
                for p in range(3):
                    if p == at:
                        self.assertEqual(len(claims(chart, 1, ahead + [row(p)])), 6)
                    else:
                        self.assert_refused(ahead + [row(p)], 5, chart=chart, start=1)

    def test_of_another_function(self):
        # Edge 1 is one of function 0 and of function 1, but not of function 2.
        self.assert_wrong(("step", 10, 1, 0))
        self.assert_wrong(("over", 10, 1, 0))
        self.assert_wrong(("in", 12, 1, 0))
        self.assert_wrong(("in", 12, 2, 0))

    def test_facts_that_the_table_does_not_bring(self):
        self.assert_refused([("begin", 0, 1), ("step", 0, 0, 0)], 1)
        self.assert_refused([("begin", 1, 1), ("step", 0, 0, 1)], 1)
        self.assert_wrong(("step", 1, 0, 0))
        self.assert_wrong(("over", 2, 1, 0))
        self.assert_wrong(("short", 2, 1, 3, 0))
        self.assert_wrong(("in", 7, 1, 0))
        self.assert_wrong(("in", 7, 1, 1))

    def test_each_row_goes_by_its_own_table(self):
        for right, name in enumerate(("over", "in", "short")):
            over, into, back = [(2, 2) if k == right else (1, 1) for k in range(3)]
            chart = [(1, 2, [("call", 0, 0, 1, 0, into, back, over)])]
            ahead = [("begin", 0, 0), ("begin", 0, 1), ("start", 0)]
            b = 1 if right == 1 else 0
            for sort, make in (
                ("over", lambda e: ("over", 0, 0, e)),
                ("in", lambda e: ("in", 2, 0, e)),
                ("short", lambda e: ("short", 0, 0, b, e)),
            ):
                e = 1 if sort == name else 0
                self.assertEqual(len(claims(chart, 1, ahead + [make(e)])), 4)
                self.assert_refused(ahead + [make(1 - e)], 3, chart=chart, start=1)


class Shorts(PaperCase):
    FULL = (3, 3)

    def chart(self):
        """Function 0 calls 1; all tables are full, but into brings fact 0 to 0 alone."""
        full = self.FULL
        steps = [("step", 0, 1, 1, full), ("step", 1, 2, 1, full), ("step", 2, 0, 1, full)]
        calls = [("call", 0, 2, 1, 1, (1, 2), full, full)]
        return [(3, 2, calls + steps), (3, 2, steps), (3, 2, steps)]

    def rows_of(self, f, a, many, first):
        """A begin in f with a, and steps from place to place; a step's number is one more in function 0."""
        more = 1 if f == 0 else 0
        return [("begin", f, a)] + [("step", first + k, k % 3 + more, a) for k in range(many)]

    def assert_short(self, f, a, many, right):
        inner = self.rows_of(f, a, many, 1)
        rows = [("begin", 0, 0)] + inner + [("short", 0, 0, len(inner), 0)]
        if right:
            self.assert_last(rows, ("within", 0, 0, 2, 0, 1 + many), chart=self.chart())
        else:
            self.assert_refused(rows, len(rows) - 1, chart=self.chart())

    def test_a_row_of_the_called_function_at_its_exit(self):
        self.assert_short(1, 0, 2, True)
        self.assert_short(1, 0, 5, True)

    def test_a_row_of_another_function(self):
        self.assert_short(0, 0, 2, False)
        self.assert_short(2, 0, 2, False)

    def test_a_row_that_is_not_at_the_exit(self):
        for many in (0, 1, 3, 4):
            self.assert_short(1, 0, many, False)

    def test_a_row_that_begins_with_a_fact_that_into_does_not_bring(self):
        self.assert_short(1, 1, 2, False)

    def test_the_exit_is_the_called_functions(self):
        full = (1,)
        for places in (2, 4):
            steps = [("step", p, p + 1, 1, full) for p in range(places - 1)]
            chart = [(3, 1, [("call", 0, 2, 1, 1, full, full, full)]), (places, 1, steps)]
            for many in range(places):
                inner = [("begin", 1, 0)] + [("step", 1 + k, k, 0) for k in range(many)]
                rows = [("begin", 0, 0)] + inner + [("short", 0, 0, len(inner), 0)]
                if many == places - 1:
                    self.assert_last(rows, ("within", 0, 0, 2, 0, places), chart=chart)
                else:
                    self.assert_refused(rows, len(rows) - 1, chart=chart)

    def test_back_brings_what_the_row_ends_with(self):
        # Back brings 0 to 0 and 1 to 1, so that what is brought hangs on the fact at the exit alone.
        chart = [(2, 2, [("call", 0, 1, 1, 1, (1, 1), (1, 2), (0, 0))]), (2, 2, [("step", 0, 1, 1, (3, 3))])]
        for y in (0, 1):
            for e in (0, 1):
                rows = [("begin", 0, 1), ("begin", 1, 0), ("step", 1, 0, y), ("short", 0, 0, 2, e)]
                if y == e:
                    self.assert_last(rows, ("within", 0, 1, 1, e, 2), chart=chart)
                else:
                    self.assert_refused(rows, 3, chart=chart)


class Alongs(PaperCase):
    def test_a_row_that_is_not_at_the_entry(self):
        chart = [(2, 1, [("step", 0, 1, 1, (1,)), ("step", 1, 1, 1, (1,))])]
        rows = [("start", 0), ("begin", 0, 0), ("step", 1, 0, 0), ("along", 0, 2)]
        self.assert_last(rows, ("at", 0, 1, 0, 1), chart=chart)
        for j in (1, 2):
            self.assert_refused(rows + [("along", 3, j)], 4, chart=chart)

    def test_a_row_of_another_function(self):
        chart = [(1, 1, [("call", 0, 0, 1, 1, (1,), (1,), (1,))]), (1, 1, []), (1, 1, [])]
        rows = [("start", 0), ("in", 0, 0, 0), ("begin", 0, 0), ("begin", 1, 0), ("begin", 2, 0)]
        for k in (0, 1):
            for j in (2, 3, 4):
                if j == 2 + k:
                    self.assert_last(rows + [("along", k, j)], ("at", k, 0, 0, k), chart=chart)
                else:
                    self.assert_refused(rows + [("along", k, j)], 5, chart=chart)

    def test_a_row_that_begins_with_another_fact(self):
        chart = [(1, 2, [("step", 0, 0, 1, (3, 3))])]
        # Row 3 begins with 1 and comes to 0, row 5 begins with 0 and comes to 1.
        rows = [("start", 0), ("start", 1), ("begin", 0, 1), ("step", 2, 0, 0), ("begin", 0, 0), ("step", 4, 0, 1)]
        for k, right in ((0, (4, 5)), (1, (2, 3))):
            for j in (2, 3, 4, 5):
                if j in right:
                    self.assertEqual(len(claims(chart, 3, rows + [("along", k, j)])), 7)
                else:
                    self.assert_refused(rows + [("along", k, j)], 6, chart=chart)

    def test_a_step_goes_on_from_a_within_alone(self):
        self.assert_wrong(("step", 6, 0, 0))
        self.assert_wrong(("over", 7, 1, 1))


class Starts(PaperCase):
    def test_a_fact_that_the_start_lacks(self):
        for d in (0, 1):
            self.assert_refused([("start", d)], 0, start=0)
            self.assert_refused([("start", d)], 0, start=2 - d)
            self.assert_claims([("start", d)], [("at", 0, 0, d, 0)], start=1 + d)
        self.assert_refused(ROWS, 6, start=2)
        self.assert_refused(ROWS, 6, start=0)

    def test_withins_hang_on_no_start(self):
        for start in range(4):
            self.assert_claims(ROWS[:6], CLAIMS[:6], start=start)


class WhichRow(PaperCase):
    def test_the_first_of_two(self):
        wrong = [("begin", -1, 0), ("start", FAR), ("step", 0, -1, 0), ("along", FAR, 0)]
        for first in wrong:
            for second in wrong:
                for at in (0, 1, 5, len(ROWS)):
                    rows = ROWS[:at] + [first] + ROWS[at:] + [second]
                    self.assert_refused(rows, at)
                self.assert_refused(ROWS + [first, second], len(ROWS))


class NothingChanged(PaperCase):
    def test_what_is_handed_in_stays(self):
        chart = copy.deepcopy(CHART)
        rows = list(ROWS)
        claims(chart, BOTH, rows)
        self.assertEqual((chart, rows), (CHART, ROWS))
        rows.append(("start", FAR))
        with self.assertRaises(NoPaper):
            claims(chart, BOTH, rows)
        self.assertEqual((chart, rows), (CHART, ROWS + [("start", FAR)]))

    def test_what_is_told_is_the_askers_own(self):
        rows = list(ROWS)
        told = claims(CHART, BOTH, rows)
        told.clear()
        self.assertEqual(rows, ROWS)
        again = claims(CHART, BOTH, rows)
        self.assertEqual(again, CLAIMS)
        rows.clear()
        self.assertEqual(again, CLAIMS)


if __name__ == "__main__":
    unittest.main()
