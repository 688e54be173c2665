"""Rows of papers unrolled: point 13, and 2 and 3 over it."""

import copy
import random
import unittest

from callmatch.charts import checked
from callmatch.errors import CallError, NoPaper, TooLong
from callmatch.papers import claims
from callmatch.unroll import unrolled
from callmatch.ways import walked
from drawn import drawn_chart, drawn_row

FAR = 10 ** 20

# Function 0 calls 1, which calls 2 and itself.
CHART = [
    (3, 2, [
        ("step", 0, 1, 4, (3, 2)),
        ("call", 1, 2, 10, 1, (4, 1), (1, 0, 2), (2, 1)),
        ("call", 2, 0, 100, 0, (2, 1), (3, 2), (1, 3)),
    ]),
    (2, 3, [
        ("step", 0, 1, 7, (1, 0, 6)),
        ("call", 0, 1, 20, 1, (4, 4, 0), (0, 3, 4), (0, 2, 0)),
        ("call", 1, 0, 30, 2, (1, 0, 1), (5,), (0, 0, 1)),
    ]),
    (1, 1, [
        ("step", 0, 0, 2, (1,)),
    ]),
]
BOTH = 3

# One place, one fact: a step, and a call of itself.
RING = [(1, 1, [("step", 0, 0, 1, (1,)), ("call", 0, 0, 3, 0, (1,), (1,), (1,))])]

# Behind these, in which all claims but the start are "within", stand the rows of each test.
ROWS = [
    ("start", 1),           # 0
    ("begin", 0, 1),        # 1
    ("step", 1, 0, 1),      # 2: at place 1 with 1
    ("over", 2, 1, 0),      # 3: at place 2 with 0
    ("begin", 1, 0),        # 4
    ("step", 4, 0, 0),      # 5: function 1 at its exit with 0
    ("short", 2, 1, 5, 0),  # 6: at place 2 with 0, by the call of 1
    ("begin", 2, 0),        # 7
    ("short", 5, 2, 7, 2),  # 8: function 1 from its exit to its entry with 2
    ("step", 8, 0, 2),      # 9: function 1 at its exit with 2
    ("short", 2, 1, 9, 1),  # 10: at place 2 with 1, by a call within a call
]
STEP = ("step", 0, 1)
INNER = ("step", 0, 0)


def doubling(many):
    """A paper for the ring in which each row takes the one ahead of it twice, then one that goes along it."""
    rows = [("begin", 0, 0), ("step", 0, 0, 0)]
    for k in range(1, many + 1):
        rows.append(("short", k, 1, k, 0))
    return rows + [("start", 0), ("along", many + 2, many + 1)]


def chain(many):
    """A paper for the ring: so many steps one behind the other, then a row that goes along them."""
    rows = [("begin", 0, 0)] + [("step", k, 0, 0) for k in range(many)]
    return rows + [("start", 0), ("along", many + 1, many)]


class UnrollCase(unittest.TestCase):
    def assert_walks(self, rows, k, told, chart, start):
        """What is unrolled ends at just what the row claims, at its cost."""
        claim = claims(chart, start, rows)[k]
        end = walked(chart, start, told[0], told[1])
        self.assertEqual(("at",) + end[:4], claim)

    def assert_unrolled(self, rows, fact, moves, chart=CHART, start=BOTH):
        """The last row is unrolled so."""
        k = len(rows) - 1
        told = unrolled(chart, start, rows, k)
        self.assertEqual(told, (fact, moves))
        self.assertIs(type(told), tuple)
        self.assertIs(type(told[0]), int)
        self.assertIs(type(told[1]), list)
        for move in told[1]:
            self.assertIs(type(move), tuple)
        self.assert_walks(rows, k, told, chart, start)
        # Just as many moves as most, and one more.
        many = len(moves)
        self.assertEqual(unrolled(chart, start, rows, k, many), told)
        self.assertEqual(unrolled(chart, start, rows, k, many + 1), told)
        if many > 0:
            self.assert_too_long(rows, k, many - 1, chart, start)
            self.assert_too_long(rows, k, 0, chart, start)

    def assert_too_long(self, rows, k, most, chart=RING, start=1):
        with self.assertRaises(TooLong) as caught:
            unrolled(chart, start, rows, k, most)
        self.assertIsInstance(caught.exception, CallError)

    def assert_no_paper(self, rows, k, most, chart=CHART, start=BOTH):
        with self.assertRaises(NoPaper, msg=(k, most)) as caught:
            unrolled(chart, start, rows, k, most)
        self.assertEqual(caught.exception.row, k)


class Moves(UnrollCase):
    def test_the_charts_are_let_by(self):
        for chart in (CHART, RING):
            self.assertEqual(checked(chart), chart)

    def test_a_start(self):
        self.assert_unrolled([("start", 0)], 0, [])
        self.assert_unrolled([("start", 0), ("start", 1)], 1, [])
        self.assert_unrolled([("start", 5)], 5, [], chart=[(1, 6, [])], start=32)

    def test_along_a_begin(self):
        self.assert_unrolled(ROWS + [("along", 0, 1)], 1, [])
        self.assert_unrolled(ROWS + [("along", 0, 1), ("along", 11, 1)], 1, [])

    def test_along_a_step(self):
        self.assert_unrolled(ROWS + [("along", 0, 2)], 1, [STEP])

    def test_along_an_over(self):
        self.assert_unrolled(ROWS + [("along", 0, 3)], 1, [STEP, ("over", 1, 0)])

    def test_along_a_short(self):
        self.assert_unrolled(ROWS + [("along", 0, 6)], 1, [STEP, ("in", 1, 0), INNER, ("out", 0)])

    def test_along_a_short_within_a_short(self):
        moves = [STEP, ("in", 1, 0), INNER, ("in", 2, 0), ("out", 2), ("step", 0, 2), ("out", 1)]
        self.assert_unrolled(ROWS + [("along", 0, 10)], 1, moves)

    def test_an_in(self):
        rows = ROWS + [("along", 0, 2), ("in", 11, 1, 0)]
        self.assert_unrolled(rows, 1, [STEP, ("in", 1, 0)])
        rows += [("along", 12, 5)]
        self.assert_unrolled(rows, 1, [STEP, ("in", 1, 0), INNER])
        rows += [("in", 13, 2, 0), ("along", 14, 7)]
        self.assert_unrolled(rows, 1, [STEP, ("in", 1, 0), INNER, ("in", 2, 0)])

    def test_an_in_at_the_very_start(self):
        rows = [("start", 0), ("in", 0, 1, 0), ("in", 1, 1, 0)]
        self.assert_unrolled(rows, 0, [("in", 1, 0), ("in", 1, 0)], chart=RING, start=1)

    def test_an_in_of_a_fact_that_is_not_the_first_one(self):
        # The in of a short brings the fact with which its row begins, not the one with which it ends.
        chart = [(2, 2, [("call", 0, 1, 1, 1, (2, 0), (2, 1), (0, 0))]), (2, 2, [("step", 0, 1, 1, (2, 1))])]
        rows = [("start", 0), ("begin", 0, 0), ("begin", 1, 1), ("step", 2, 0, 0), ("short", 1, 0, 3, 1)]
        rows += [("along", 0, 4)]
        self.assert_unrolled(rows, 0, [("in", 0, 1), ("step", 0, 0), ("out", 1)], chart=chart)

    def test_alongs_one_behind_the_other(self):
        rows = ROWS + [("over", 3, 2, 0), ("along", 0, 11), ("begin", 0, 0), ("step", 13, 0, 1), ("along", 12, 14)]
        moves = [STEP, ("over", 1, 0), ("over", 2, 0), ("step", 0, 1)]
        self.assert_unrolled(rows, 1, moves)

    def test_one_row_taken_twice(self):
        rows = [("begin", 0, 0), ("step", 0, 0, 0), ("short", 1, 1, 1, 0), ("start", 0)]
        rows += [("along", 3, 2), ("along", 4, 2)]
        once = [("step", 0, 0), ("in", 1, 0), ("step", 0, 0), ("out", 0)]
        self.assert_unrolled(rows, 0, once * 2, chart=RING, start=1)

    def test_rows_behind_are_not_looked_at(self):
        rows = ROWS + [("along", 0, 2)]
        self.assertEqual(unrolled(CHART, BOTH, rows + ROWS[:1], 11), (1, [STEP]))
        self.assertEqual(unrolled(CHART, BOTH, rows + ROWS[:1], 0), (1, []))
        self.assertEqual(unrolled(CHART, BOTH, rows + ROWS[:1], 12), (1, []))

    def test_a_paper_let_by_for_another_start(self):
        rows = ROWS + [("along", 0, 2)]
        for start in range(4):
            self.assertEqual(unrolled(CHART, start, rows, 11), (1, [STEP]))


class Most(UnrollCase):
    def test_not_told_it_is_400(self):
        rows = chain(400)
        told = unrolled(RING, 1, rows, 402)
        self.assertEqual(told, (0, [("step", 0, 0)] * 400))
        self.assert_walks(rows, 402, told, RING, 1)
        rows = chain(401)
        with self.assertRaises(TooLong):
            unrolled(RING, 1, rows, 403)
        rows[403] = ("along", 402, 400)
        self.assertEqual(unrolled(RING, 1, rows, 403), (0, [("step", 0, 0)] * 400))

    def test_just_as_many_and_one_more(self):
        for most in (0, 1, 2, 3, 17, 399, 400):
            self.assertEqual(len(unrolled(RING, 1, chain(most), most + 2, most)[1]), most)
            self.assert_too_long(chain(most + 1), most + 3, most)

    def test_by_its_name(self):
        self.assertEqual(unrolled(RING, 1, chain(2), 4, most=2), (0, [("step", 0, 0)] * 2))
        with self.assertRaises(TooLong):
            unrolled(RING, 1, chain(2), 4, most=1)

    def test_nought(self):
        self.assertEqual(unrolled(RING, 1, [("start", 0)], 0, 0), (0, []))
        self.assertEqual(unrolled(RING, 1, chain(0), 2, 0), (0, []))
        self.assert_too_long([("start", 0), ("in", 0, 1, 0)], 1, 0)

    def test_an_in_and_an_out_are_a_move_each(self):
        rows = [("begin", 0, 0), ("short", 0, 1, 0, 0), ("start", 0), ("along", 2, 1)]
        self.assertEqual(unrolled(RING, 1, rows, 3, 2), (0, [("in", 1, 0), ("out", 0)]))
        self.assert_too_long(rows, 3, 1)

    def test_moves_of_both_rows_of_an_along(self):
        rows = chain(200) + [("along", 202, 200)]
        told = unrolled(RING, 1, rows, 203)
        self.assertEqual(told, (0, [("step", 0, 0)] * 400))
        self.assert_too_long(rows, 203, 399)

    def test_doubled_sixty_times(self):
        for many in (60, 61, 1000, 2990):
            rows = doubling(many)
            for most in (0, 1, 399, 400):
                self.assert_too_long(rows, len(rows) - 1, most)
            with self.assertRaises(TooLong):
                unrolled(RING, 1, rows, len(rows) - 1)

    def test_doubled_a_few_times(self):
        # Moves: 1, then each time twice as many and two more.
        many, count = 0, 1
        while count <= 400:
            rows = doubling(many)
            told = unrolled(RING, 1, rows, len(rows) - 1)
            self.assertEqual(len(told[1]), count)
            self.assert_walks(rows, len(rows) - 1, told, RING, 1)
            self.assert_too_long(rows, len(rows) - 1, count - 1)
            many, count = many + 1, 2 * count + 2
        self.assertGreater(many, 6)
        self.assert_too_long(doubling(many), many + 3, 400)

    def test_long_rows_that_the_asked_one_does_not_take(self):
        rows = doubling(60) + [("in", 62, 1, 0)]
        self.assertEqual(unrolled(RING, 1, rows, 64), (0, [("in", 1, 0)]))
        self.assertEqual(unrolled(RING, 1, rows, 62, 0), (0, []))


class Deep(UnrollCase):
    def test_400_shorts_within_one_another(self):
        for many in (200, 1000, 2900):
            rows = [("begin", 0, 0)] + [("short", 0, 1, k, 0) for k in range(many)]
            rows += [("start", 0), ("along", many + 1, many)]
            if many == 200:
                told = unrolled(RING, 1, rows, many + 2)
                self.assertEqual(told, (0, [("in", 1, 0)] * many + [("out", 0)] * many))
                self.assert_walks(rows, many + 2, told, RING, 1)
            else:
                self.assert_too_long(rows, many + 2, 400)

    def test_400_ins(self):
        for many in (400, 401, 2900):
            rows = [("start", 0)] + [("in", k, 1, 0) for k in range(many)]
            if many == 400:
                told = unrolled(RING, 1, rows, many)
                self.assertEqual(told, (0, [("in", 1, 0)] * many))
                self.assert_walks(rows, many, told, RING, 1)
            else:
                self.assert_too_long(rows, many, 400)
                self.assertEqual(len(unrolled(RING, 1, rows, 400)[1]), 400)

    def test_chains_of_more_rows(self):
        rows = chain(2900)
        self.assert_too_long(rows, 2902, 400)
        rows[2902] = ("along", 2901, 400)
        self.assertEqual(len(unrolled(RING, 1, rows, 2902)[1]), 400)

    def test_alongs_without_moves_thousands_deep(self):
        rows = [("begin", 0, 0), ("start", 0)] + [("along", k, 0) for k in range(1, 2999)]
        self.assertEqual(len(rows), 3000)
        self.assertEqual(unrolled(RING, 1, rows, 2999, 0), (0, []))


class NoPapers(UnrollCase):
    def test_rows_that_claim_within(self):
        for k in range(1, len(ROWS)):
            for most in (0, 1, 400):
                self.assert_no_paper(ROWS, k, most)

    def test_numbers_of_no_row(self):
        for rows in ([], ROWS, ROWS + [("along", 0, 10)], [("start", 0)]):
            last = len(rows)
            for k in (-1, -last, -last - 1, -FAR, last, last + 1, FAR):
                if not 0 <= k < last:
                    for most in (0, 1, 400):
                        self.assert_no_paper(rows, k, most)

    def test_ahead_of_too_long(self):
        rows = doubling(60)
        for k in (0, 1, 61, 64, -1, -2, FAR):
            for most in (0, 400):
                self.assert_no_paper(rows, k, most, chart=RING, start=1)

    def test_most_not_told(self):
        for k in (1, -1, 11, FAR):
            with self.assertRaises(NoPaper) as caught:
                unrolled(CHART, BOTH, ROWS, k)
            self.assertEqual(caught.exception.row, k)


class Drawn(UnrollCase):
    def drawn_paper(self, seed, chart, start):
        """Rows drawn, of which those are kept that the paper is let by with."""
        draw = random.Random(seed)
        rows, told = [], []
        for k in range(200):
            row = drawn_row(draw, chart, told)
            if row is not None:
                try:
                    told = claims(chart, start, rows + [row])
                except NoPaper:
                    continue
                rows.append(row)
        return rows

    def test_each_row_walks_to_its_claim(self):
        seen = {}
        for seed in range(60):
            chart = drawn_chart(seed, edges=14, full=6)
            start = (1 << chart[0][1]) - 1
            rows = self.drawn_paper(seed, chart, start)
            for k, claim in enumerate(claims(chart, start, rows)):
                if claim[0] == "within":
                    self.assert_no_paper(rows, k, 0, chart, start)
                    continue
                told = unrolled(chart, start, rows, k)
                self.assert_walks(rows, k, told, chart, start)
                many = len(told[1])
                self.assertEqual(unrolled(chart, start, rows, k, many), told)
                if many > 0:
                    self.assert_too_long(rows, k, many - 1, chart, start)
                for move in told[1]:
                    seen[move[0]] = seen.get(move[0], 0) + 1
        # The drawn papers are of use only where all sorts of moves come.
        for sort in ("step", "over", "in", "out"):
            self.assertGreater(seen[sort], 100, seen)


class NothingChanged(UnrollCase):
    def test_what_is_handed_in_stays(self):
        chart = copy.deepcopy(CHART)
        rows = ROWS + [("along", 0, 10)]
        before = list(rows)
        unrolled(chart, BOTH, rows, 11)
        self.assertEqual((chart, rows), (CHART, before))
        for k, most, refusal in ((11, 1, TooLong), (10, 400, NoPaper), (12, 400, NoPaper)):
            with self.assertRaises(refusal):
                unrolled(chart, BOTH, rows, k, most)
            self.assertEqual((chart, rows), (CHART, before))

    def test_what_is_told_is_the_askers_own(self):
        rows = ROWS + [("along", 0, 10)]
        before = list(rows)
        told = unrolled(CHART, BOTH, rows, 11)
        wanted = (told[0], list(told[1]))
        told[1].clear()
        self.assertEqual(rows, before)
        again = unrolled(CHART, BOTH, rows, 11)
        self.assertEqual(again, wanted)
        rows.clear()
        self.assertEqual(again, wanted)


if __name__ == "__main__":
    unittest.main()
