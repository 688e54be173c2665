"""Charts of programs: point 22, and 2 over it."""

import copy
import unittest

from callmatch.charts import checked
from callmatch.making import chart_of
from callmatch.programs import read
from callmatch.tables import pairs_of, same
from drawn_programs import drawn_program
from plain_programs import plain_chart

# Three variables x, y, z have the facts 1, 2, 3; fact 4 is that the value given back is dyed.
SAME = same(5)


def edges_of(row, given="x y z"):
    """The edges of a row that is the second of three, in a function f with facts 0 to 4."""
    chart = chart_of(read(f"function f {given}\nto 2\n{row}\nreturn x\nfunction g\nreturn a\nfunction h a\nreturn b"))
    return chart[0][2][1:-1]


def changed(becomes):
    """The table that leaves all facts but these, which become others."""
    told = [1 << d for d in range(5)]
    for d, facts in becomes.items():
        told[d] = sum([1 << e for e in facts])
    return tuple(told)


class Steps(unittest.TestCase):
    def assert_step(self, row, becomes):
        """One edge to the next place, by which all facts stay but these."""
        self.assertEqual(edges_of(row), [("step", 1, 2, 1, changed(becomes))], row)

    def test_number(self):
        for x, fact in (("x", 1), ("y", 2), ("z", 3)):
            for n in (0, 5, 10 ** 18 - 1):
                self.assert_step(f"{x} = {n}", {fact: []})

    def test_wash(self):
        for x, fact in (("x", 1), ("y", 2), ("z", 3)):
            self.assert_step(f"wash {x}", {fact: []})

    def test_copy(self):
        self.assert_step("x = y", {1: [], 2: [2, 1]})
        self.assert_step("y = x", {2: [], 1: [1, 2]})
        self.assert_step("z = x", {3: [], 1: [1, 3]})
        self.assert_step("x = z", {1: [], 3: [3, 1]})

    def test_copy_of_itself(self):
        for x in "xyz":
            self.assert_step(f"{x} = {x}", {})

    def test_does(self):
        for op in "+-*":
            self.assert_step(f"x = y {op} z", {1: [], 2: [2, 1], 3: [3, 1]})
            self.assert_step(f"z = y {op} x", {3: [], 2: [2, 3], 1: [1, 3]})
            self.assert_step(f"x = y {op} y", {1: [], 2: [2, 1]})
            self.assert_step(f"x = x {op} y", {2: [2, 1]})
            self.assert_step(f"x = y {op} x", {2: [2, 1]})
            self.assert_step(f"y = y {op} y", {})

    def test_dye(self):
        for x, fact in (("x", 1), ("y", 2), ("z", 3)):
            self.assert_step(f"dye {x}", {0: [0, fact]})

    def test_if(self):
        for x in "xyz":
            self.assertEqual(edges_of(f"if {x} to 1"), [("step", 1, 2, 1, SAME), ("step", 1, 0, 1, SAME)])
            # To the row itself, and to the next one.
            self.assertEqual(edges_of(f"if {x} to 2"), [("step", 1, 2, 1, SAME), ("step", 1, 1, 1, SAME)])
            self.assertEqual(edges_of(f"if {x} to 3"), [("step", 1, 2, 1, SAME), ("step", 1, 2, 1, SAME)])

    def test_to(self):
        for k in (1, 2, 3):
            self.assertEqual(edges_of(f"to {k}"), [("step", 1, k - 1, 1, SAME)])

    def test_return(self):
        for x, fact in (("x", 1), ("y", 2), ("z", 3)):
            wanted = tuple([{0: 1, fact: 16}.get(d, 0) for d in range(5)])
            self.assertEqual(edges_of(f"return {x}"), [("step", 1, 3, 1, wanted)])

    def test_return_of_the_only_variable(self):
        self.assertEqual(chart_of(read("function f\nreturn x")), [(2, 3, [("step", 0, 1, 1, (1, 4, 0))])])


class Calls(unittest.TestCase):
    def assert_call(self, row, g, into, back, left):
        """One edge to the next place; into and back by pairs, over without 0 and this fact."""
        edges = edges_of(row)
        self.assertEqual(len(edges), 1)
        self.assertEqual(edges[0][:5], ("call", 1, 2, 1, g))
        self.assertEqual([len(part) for part in edges[0][5:]], [5, {0: 5, 1: 3, 2: 4}[g], 5])
        self.assertEqual(pairs_of(edges[0][5]), into)
        self.assertEqual(pairs_of(edges[0][6]), back)
        self.assertEqual(pairs_of(edges[0][7]), [(d, d) for d in range(1, 5) if d != left])

    def test_no_args(self):
        for x, fact in (("x", 1), ("y", 2), ("z", 3)):
            self.assert_call(f"{x} = call g", 1, [(0, 0)], [(0, 0), (2, fact)], fact)

    def test_an_arg(self):
        self.assert_call("x = call h y", 2, [(0, 0), (2, 1)], [(0, 0), (3, 1)], 1)
        self.assert_call("y = call h z", 2, [(0, 0), (3, 1)], [(0, 0), (3, 2)], 2)

    def test_x_among_the_args(self):
        self.assert_call("x = call h x", 2, [(0, 0), (1, 1)], [(0, 0), (3, 1)], 1)
        self.assert_call("z = call h z", 2, [(0, 0), (3, 1)], [(0, 0), (3, 3)], 3)

    def test_of_itself(self):
        self.assert_call("x = call f x y z", 0, [(0, 0), (1, 1), (2, 2), (3, 3)], [(0, 0), (4, 1)], 1)
        self.assert_call("y = call f z x y", 0, [(0, 0), (1, 2), (2, 3), (3, 1)], [(0, 0), (4, 2)], 2)

    def test_one_variable_given_twice(self):
        self.assert_call("x = call f y y z", 0, [(0, 0), (2, 1), (2, 2), (3, 3)], [(0, 0), (4, 1)], 1)
        self.assert_call("x = call f x x x", 0, [(0, 0), (1, 1), (1, 2), (1, 3)], [(0, 0), (4, 1)], 1)

    def test_of_a_function_of_four_variables(self):
        text = "function f\nx = call g x x x x\nreturn x\nfunction g a b c d\nreturn a"
        wanted = ("call", 0, 1, 1, 1, (1, 2 + 4 + 8 + 16, 0), (1, 0, 0, 0, 0, 2), (0, 0, 4))
        self.assertEqual(chart_of(read(text))[0][2][0], wanted)

    def test_of_a_function_of_no_variables(self):
        text = "function f\nx = call g\nreturn x\nfunction g\nto 1"
        self.assertEqual(chart_of(read(text))[0][2][0], ("call", 0, 1, 1, 1, (1, 0, 0), (1, 2), (0, 0, 4)))


class Functions(unittest.TestCase):
    def test_places_and_facts(self):
        for many in range(5):
            for rows in range(1, 10):
                text = " ".join(["function", "f"] + list("abcd")[:many]) + "\nto 1" * rows
                wanted = [(rows + 1, many + 2, [("step", p, 0, 1, same(many + 2)) for p in range(rows)])]
                self.assertEqual(chart_of(read(text)), wanted)

    def test_variables_that_are_not_given(self):
        self.assertEqual(chart_of(read("function f\na = b\nreturn c"))[0][:2], (3, 5))

    def test_a_function_for_each(self):
        for many in range(1, 7):
            parts = [f"function {name} a\n" + "wash a\n" * k + "to 1" for k, name in enumerate("uvwxyz"[:many])]
            chart = chart_of(read("\n".join(parts)))
            self.assertEqual([function[:2] for function in chart], [(k + 2, 3) for k in range(many)])

    def test_edges_in_the_rows_order(self):
        text = "function f a\nif a to 3\na = call f a\nif a to 1\nto 2\nreturn a"
        ends = [edge[:3] for edge in chart_of(read(text))[0][2]]
        wanted = [("step", 0, 1), ("step", 0, 2), ("call", 1, 2), ("step", 2, 3), ("step", 2, 0), ("step", 3, 1)]
        self.assertEqual(ends, wanted + [("step", 4, 5)])

    def test_kinds(self):
        chart = chart_of(drawn_program(5))
        self.assertIs(type(chart), list)
        for function in chart:
            self.assertEqual([type(part) for part in function], [int, int, list])
            for edge in function[2]:
                self.assertIs(type(edge), tuple)
                for part in edge:
                    self.assertIn(type(part), (str, int, tuple))


class Drawn(unittest.TestCase):
    def test_charts_that_are_let_by(self):
        for seed in range(500):
            chart = chart_of(drawn_program(seed))
            self.assertEqual(checked(chart), chart)

    def test_the_charts(self):
        for seed in range(500):
            program = drawn_program(seed)
            self.assertEqual(chart_of(program), plain_chart(program), program)

    def test_nothing_is_refused_for_variables_beyond_the_fourth(self):
        rows = (("copy", 5, 4), ("dye", 5), ("does", 0, "*", 4, 5), ("call", 4, 0, (5, 4, 0)), ("wash", 4))
        program = [("f", 3, tuple("abcdef"), rows + (("return", 5),))]
        self.assertEqual(chart_of(program), plain_chart(program))

    def test_what_is_handed_in_stays_and_what_is_told_is_the_askers_own(self):
        for seed in range(40):
            program = drawn_program(seed)
            before = copy.deepcopy(program)
            chart = chart_of(program)
            wanted = copy.deepcopy(chart)
            self.assertEqual(program, before)
            chart[0][2].clear()
            chart.clear()
            self.assertEqual(chart_of(program), wanted)
            chart = chart_of(program)
            program.append(program[0])
            self.assertEqual(chart, wanted)


if __name__ == "__main__":
    unittest.main()
