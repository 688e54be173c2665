"""The whole: points 1, 2 and 3, from texts to programs, charts, papers, ways, runs and the desk."""

import copy
import random
import unittest

from callmatch.back import back
from callmatch.charts import checked
from callmatch.desk import Desk
from callmatch.errors import TooLong
from callmatch.front import front
from callmatch.making import chart_of
from callmatch.papers import claims
from callmatch.programs import read
from callmatch.runs import run
from callmatch.shorts import inner, shorts
from callmatch.shut import is_shut
from callmatch.unroll import unrolled
from callmatch.ways import walked
from callmatch.writer import written
from drawn import drawn_chart, drawn_start
from drawn_programs import drawn_program, loose_text, text_rows
from plain import facts, plain_inside, plain_places


class Told:
    """All that is told of a chart and a start, with the costs that the papers claim."""

    def __init__(self, chart, start):
        self.chart, self.start = chart, start
        self.inner_rows, self.inner_found = inner(chart)
        within = claims(chart, start, self.inner_rows)
        self.inside = {key: within[k][5] for key, k in self.inner_found.items()}
        self.rows, self.found = front(chart, start)
        at = claims(chart, start, self.rows)
        self.places = {key: at[k][4] for key, k in self.found.items()}
        self.claimed = [(key, within[k]) for key, k in self.inner_found.items()]
        self.claimed += [(key, at[k]) for key, k in self.found.items()]


class WholeCase(unittest.TestCase):
    def assert_whole(self, chart, start):
        """Point 3, for a chart and a start; how many places and facts a way leads to."""
        told = Told(chart, start)
        for key, claim in told.claimed:
            self.assertEqual(claim[1:-1], key)
        self.assertTrue(is_shut(chart, start, told.inside, told.places))
        self.assert_ways(told)
        self.assert_backs(told)
        for f in range(len(chart)):
            last = chart[f][0] - 1
            wanted = {(a, d): cost for (g, a, p, d), cost in told.inside.items() if (g, p) == (f, last)}
            self.assertEqual(shorts(chart, f), wanted)
        return len(told.found)

    def assert_ways(self, told):
        for key, k in told.found.items():
            try:
                fact, moves = unrolled(told.chart, told.start, told.rows, k)
            except TooLong:
                continue
            self.assertEqual(walked(told.chart, told.start, fact, moves)[:4], key + (told.places[key],))

    def assert_backs(self, told):
        for f, function in enumerate(told.chart):
            for p in range(function[0]):
                for d in range(function[1]):
                    costs = back(told.chart, f, p, d)
                    at_start = [costs[(0, 0, e)] for e in facts(told.start) if (0, 0, e) in costs]
                    self.assertEqual(min(at_start, default=None), told.places.get((f, p, d)))


class Programs(WholeCase):
    def test_from_texts(self):
        led = 0
        for seed in range(60):
            draw = random.Random(seed)
            program = read(loose_text(draw, text_rows(drawn_program(seed))))
            self.assertEqual(read(written(program)), program)
            chart = checked(chart_of(program))
            dyed = draw.randrange(1 << program[0][1])
            led += self.assert_whole(chart, dyed << 1 | 1)
        self.assertGreater(led, 500)

    def test_all_starts_of_a_programs_chart(self):
        for seed in range(20):
            chart = chart_of(drawn_program(seed, functions=3, variables=2, rows=5))
            for start in range(1 << chart[0][1]):
                self.assert_whole(chart, start)

    def test_a_cost_too_high_or_left_out_is_seen(self):
        # By chart and start alone.
        seen = 0
        for seed in range(30):
            chart = chart_of(drawn_program(seed, functions=3, variables=2, rows=5))
            told = Told(chart, 1)
            for costs in (told.inside, told.places):
                for key, cost in list(costs.items()):
                    costs[key] = cost + 1
                    self.assertFalse(is_shut(chart, 1, told.inside, told.places))
                    costs.pop(key)
                    self.assertFalse(is_shut(chart, 1, told.inside, told.places))
                    costs[key] = cost
                    seen += 1
        self.assertGreater(seen, 500)

    def test_runs_are_within_what_the_desk_tells(self):
        dyed_facts = 0
        for seed in range(300):
            draw = random.Random(seed)
            program = drawn_program(seed)
            dyed = draw.randrange(1 << program[0][1])
            desk = Desk(written(program), dyed)
            values = [draw.randrange(3) for k in range(program[0][1])]
            for steps, f, p, mask in run(program, values, dyed, most=60)[0]:
                names = ("here",) + program[f][2] + ("back",)
                for d in facts(mask):
                    self.assertLessEqual(int(desk.cost(program[f][0], p + 1, names[d])), steps)
                    dyed_facts += d > 0
        self.assertGreater(dyed_facts, 500)


class Charts(WholeCase):
    def test_drawn_charts(self):
        led = 0
        for seed in range(60):
            chart = checked(drawn_chart(seed))
            led += self.assert_whole(chart, drawn_start(seed, chart))
            self.assertEqual(Told(chart, 1).inside, plain_inside(chart))
            self.assertEqual(Told(chart, 1).places, plain_places(chart, 1, plain_inside(chart)))
        self.assertGreater(led, 150)

    def test_charts_of_one_function_without_edges(self):
        for places in (1, 2, 10):
            for many in (1, 6):
                for start in range(1 << many):
                    self.assertEqual(self.assert_whole([(places, many, [])], start), len(facts(start)))


class NothingChanged(WholeCase):
    def test_nothing_told_elsewhere_is_changed(self):
        for seed in range(10):
            text = written(drawn_program(seed))
            asked = (read(text)[0][0], 1, "here")
            desk = Desk(text, 3)
            before = (desk.cost(*asked), desk.way(*asked), desk.costs_to(*asked))
            program = read(text)
            chart = chart_of(program)
            whole = copy.deepcopy((program, chart, inner(chart), front(chart, 1), back(chart, 0, 0, 0)))
            for part in (front(chart, 1)[0], front(chart, 1)[1], inner(chart)[0], back(chart, 0, 0, 0)):
                part.clear()
            self.assertEqual((program, chart, inner(chart), front(chart, 1), back(chart, 0, 0, 0)), whole)
            told = front(chart, 1)
            chart.clear()
            program.clear()
            self.assertEqual(told, whole[3])
            self.assertEqual((desk.cost(*asked), desk.way(*asked), desk.costs_to(*asked)), before)


if __name__ == "__main__":
    unittest.main()
