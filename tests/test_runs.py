"""Runs of programs: points 23, 24 and 25, and 2 over them."""

import copy
import inspect
import random
import unittest

from callmatch.front import front
from callmatch.making import chart_of
from callmatch.papers import claims
from callmatch.programs import read
from callmatch.runs import run
from drawn_programs import drawn_program
from plain_programs import plain_run

MOST_VALUE = 10 ** 18 - 1
TWICE = "function f a\nb = call g a\nreturn b\nfunction g x\ny = x + x\nreturn y"


class RunCase(unittest.TestCase):
    def assert_run(self, text, values, dyed, states, end):
        """Just these states and this end, and of the kinds told."""
        told = run(read(text), values, dyed)
        self.assert_kinds(told)
        self.assertEqual(told, (states, end), text)
        self.assertEqual(plain_run(read(text), values, dyed, 400), (states, end))

    def assert_kinds(self, told):
        self.assertEqual([type(part) for part in told], [list, tuple])
        self.assertIs(type(told), tuple)
        for state in told[0]:
            self.assertIs(type(state), tuple)
            self.assertEqual([type(part) for part in state], [int] * 4)
        self.assertIn([type(part) for part in told[1]], ([str], [str, int]))

    def assert_row(self, row, values, dyed, value, mask):
        """A row, in a function f given x, y, z, that leaves x at this value and the facts so."""
        text = f"function f x y z\n{row}\nreturn x"
        back = mask >> 1 & 1
        states = [(0, 0, 0, dyed << 1 | 1), (1, 0, 1, mask), (2, 0, 2, 16 * back + 1)]
        self.assert_run(text, values, dyed, states, ("done", value))


class Rows(RunCase):
    def test_number(self):
        for n in (0, 1, 77, MOST_VALUE):
            self.assert_row(f"x = {n}", [5, 6, 7], 0, n, 1)
        # The dye of x alone is taken off.
        self.assert_row("x = 5", [1, 2, 3], 7, 5, 1 + 4 + 8)
        self.assert_row("y = 5", [1, 2, 3], 7, 1, 1 + 2 + 8)

    def test_copy(self):
        self.assert_row("x = y", [1, 2, 3], 0, 2, 1)
        self.assert_row("x = y", [1, 2, 3], 1, 2, 1)
        self.assert_row("x = y", [1, 2, 3], 2, 2, 1 + 2 + 4)
        self.assert_row("x = y", [1, 2, 3], 4, 2, 1 + 8)
        self.assert_row("x = x", [1, 2, 3], 1, 1, 1 + 2)
        self.assert_row("y = x", [1, 2, 3], 2, 1, 1)

    def test_does(self):
        self.assert_row("x = y + z", [1, 20, 3], 0, 23, 1)
        self.assert_row("x = y - z", [1, 20, 3], 0, 17, 1)
        self.assert_row("x = y * z", [1, 20, 3], 0, 60, 1)
        self.assert_row("x = z - y", [1, 20, 3], 0, 10 ** 18 - 17, 1)
        self.assert_row("x = x + x", [9, 20, 3], 0, 18, 1)
        self.assert_row("x = x * y", [9, 20, 3], 0, 180, 1)

    def test_the_dyes_of_does(self):
        for op in "+-*":
            for dyed in range(8):
                wanted = {"y": dyed >> 1 & 1, "z": dyed >> 2 & 1, "x": dyed & 1}
                for y in "xyz":
                    for z in "xyz":
                        x = wanted[y] or wanted[z]
                        self.assert_row(f"x = {y} {op} {z}", [0, 0, 0], dyed, 0, (dyed & 6) << 1 | x << 1 | 1)

    def test_the_remainder(self):
        self.assert_row("x = y + z", [0, MOST_VALUE, 1], 0, 0, 1)
        self.assert_row("x = y + z", [0, MOST_VALUE, MOST_VALUE], 0, 10 ** 18 - 2, 1)
        self.assert_row("x = y - z", [0, 0, 1], 0, MOST_VALUE, 1)
        self.assert_row("x = y - z", [0, 0, MOST_VALUE], 0, 1, 1)
        self.assert_row("x = y * z", [0, MOST_VALUE, MOST_VALUE], 0, 1, 1)
        self.assert_row("x = y * z", [0, 10 ** 9, 10 ** 9], 0, 0, 1)
        self.assert_row("x = y * z", [0, 10 ** 9 + 1, 10 ** 9], 0, 10 ** 9, 1)

    def test_dye_and_wash_leave_the_value(self):
        self.assert_row("dye x", [5, 6, 7], 0, 5, 3)
        self.assert_row("dye x", [5, 6, 7], 1, 5, 3)
        self.assert_row("wash x", [5, 6, 7], 0, 5, 1)
        self.assert_row("wash x", [5, 6, 7], 7, 5, 1 + 4 + 8)
        self.assert_row("dye z", [5, 6, 7], 0, 5, 1 + 8)

    def test_if(self):
        text = "function f x y\nif x to 3\nreturn y\ndye y\nreturn y"
        no = [(0, 0, 0, 1), (1, 0, 1, 1), (2, 0, 4, 1)]
        yes = [(0, 0, 0, 1), (1, 0, 2, 1), (2, 0, 3, 5), (3, 0, 4, 9)]
        self.assert_run(text, [0, 8], 0, no, ("done", 8))
        self.assert_run(text, [1, 8], 0, yes, ("done", 8))
        self.assert_run(text, [MOST_VALUE, 8], 0, yes, ("done", 8))

    def test_an_if_changes_nothing(self):
        self.assert_row("if x to 2", [0, 1, 2], 5, 0, 11)
        self.assert_row("if x to 2", [4, 1, 2], 5, 4, 11)

    def test_to(self):
        text = "function f x\nto 3\ndye x\nreturn x"
        self.assert_run(text, [8], 0, [(0, 0, 0, 1), (1, 0, 2, 1), (2, 0, 3, 1)], ("done", 8))

    def test_return(self):
        for x, value, fact in (("x", 1, 1), ("y", 2, 2), ("z", 3, 4)):
            for dyed in range(8):
                end = 1 + (16 if dyed & fact else 0)
                states = [(0, 0, 0, dyed << 1 | 1), (1, 0, 1, end)]
                self.assert_run(f"function f x y z\nreturn {x}", [1, 2, 3], dyed, states, ("done", value))

    def test_other_variables_hold_0_and_are_not_dyed(self):
        text = "function f a\nif b to 3\nreturn b\nreturn a"
        for dyed in (0, 2, 6, 1 << 40):
            self.assert_run(text, [5], dyed, [(0, 0, 0, 1), (1, 0, 1, 1), (2, 0, 3, 1)], ("done", 0))

    def test_bits_beyond_the_given_variables(self):
        program = read("function f a b\nc = a + b\ndye d\nreturn c")
        for dyed in range(4):
            for beyond in (4, 8, 16, 252, 1 << 100):
                self.assertEqual(run(program, [1, 2], dyed | beyond), run(program, [1, 2], dyed))
        self.assertEqual(run(program, [1, 2], 252)[0][0], (0, 0, 0, 1))
        self.assertEqual(run(program, [1, 2], 255)[0][0], (0, 0, 0, 7))


class Calls(RunCase):
    def test_values_and_dyes_handed_in_and_given_back(self):
        states = [(0, 0, 0, 1), (1, 1, 0, 1), (2, 1, 1, 1), (3, 1, 2, 1), (3, 0, 1, 1), (4, 0, 2, 1)]
        self.assert_run(TWICE, [21], 0, states, ("done", 42))
        states = [(0, 0, 0, 3), (1, 1, 0, 3), (2, 1, 1, 7), (3, 1, 2, 9), (3, 0, 1, 7), (4, 0, 2, 9)]
        self.assert_run(TWICE, [21], 1, states, ("done", 42))

    def test_the_order_of_what_is_handed_in(self):
        text = "function f a b c\na = call g c a b\nreturn a\nfunction g x y z\nx = x * y\nx = x - z\nreturn x"
        states = [(0, 0, 0, 5), (1, 1, 0, 9), (2, 1, 1, 9), (3, 1, 2, 11), (4, 1, 3, 17), (4, 0, 1, 7), (5, 0, 2, 17)]
        self.assert_run(text, [3, 5, 7], 2, states, ("done", 16))

    def test_one_variable_handed_in_twice(self):
        text = "function f a\na = call g a a\nreturn a\nfunction g x y\nx = 1\nreturn y"
        states = [(0, 0, 0, 3), (1, 1, 0, 7), (2, 1, 1, 5), (3, 1, 2, 9), (3, 0, 1, 3), (4, 0, 2, 5)]
        self.assert_run(text, [9], 1, states, ("done", 9))

    def test_variables_of_its_own(self):
        text = "function f a b\nb = call g\nreturn a\nfunction g\na = 5\ndye a\nreturn b"
        states = [(0, 0, 0, 7), (1, 1, 0, 1), (2, 1, 1, 1), (3, 1, 2, 3), (4, 1, 3, 1), (4, 0, 1, 3), (5, 0, 2, 9)]
        self.assert_run(text, [1, 2], 3, states, ("done", 1))

    def test_x_is_cleaned_by_a_clean_value(self):
        text = "function f a\na = call g\nreturn a\nfunction g\nreturn x"
        states = [(0, 0, 0, 3), (1, 1, 0, 1), (2, 1, 1, 1), (2, 0, 1, 1), (3, 0, 2, 1)]
        self.assert_run(text, [1], 1, states, ("done", 0))

    def test_x_is_dyed_by_a_dyed_value(self):
        text = "function f a\na = call g\nreturn a\nfunction g\ndye x\nreturn x"
        states = [(0, 0, 0, 1), (1, 1, 0, 1), (2, 1, 1, 3), (3, 1, 2, 5), (3, 0, 1, 3), (4, 0, 2, 5)]
        self.assert_run(text, [1], 0, states, ("done", 0))

    def test_calls_within_calls(self):
        text = "function f\nx = call g\nreturn x\nfunction g\nx = call h\nreturn x\nfunction h\nx = 7\ndye x\nreturn x"
        states = [(0, 0, 0, 1), (1, 1, 0, 1), (2, 2, 0, 1), (3, 2, 1, 1), (4, 2, 2, 3), (5, 2, 3, 5), (5, 1, 1, 3)]
        states += [(6, 1, 2, 5), (6, 0, 1, 3), (7, 0, 2, 5)]
        self.assert_run(text, [], 0, states, ("done", 7))

    def test_a_return_to_the_call_that_it_belongs_to(self):
        text = "function f\na = call g\nb = call g\na = a + b\nreturn a\nfunction g\nx = 4\nreturn x"
        states, end = run(read(text), [])
        wanted = [(0, 0, 0), (3, 0, 1), (6, 0, 2), (7, 0, 3), (8, 0, 4)]
        self.assertEqual([state[:3] for state in states if state[1] == 0], wanted)
        self.assertEqual(end, ("done", 8))

    def test_a_function_that_calls_itself(self):
        # The sum of 1 to n.
        text = "function f n\nif n to 3\nreturn n\none = 1\nm = n - one\nm = call f m\nn = n + m\nreturn n"
        for n in range(40):
            states, end = run(read(text), [n])
            self.assertEqual(end, ("done", n * (n + 1) // 2))
            self.assertEqual(states[-1][0], 6 * n + 2)
        self.assertEqual(run(read(text), [3], 1)[0][-1], (20, 0, 7, 17))

    def test_as_deep_as_the_steps_let(self):
        program = read("function f\nx = call f\nreturn x")
        for most in (0, 1, 17, 399, 400):
            self.assertEqual(run(program, [], 0, most), ([(k, 0, 0, 1) for k in range(most + 1)], ("spent",)))

    def test_function_0_called_by_another(self):
        text = "function f a\nif a to 3\nreturn a\na = call g\nreturn a\nfunction g\na = call f b\nreturn a"
        states = [(0, 0, 0, 3), (1, 0, 2, 3), (2, 1, 0, 1), (3, 0, 0, 1), (4, 0, 1, 1), (5, 0, 4, 1), (5, 1, 1, 1)]
        states += [(6, 1, 2, 1), (6, 0, 3, 1), (7, 0, 4, 1)]
        self.assert_run(text, [3], 1, states, ("done", 0))


class Ends(RunCase):
    def test_spent_where_a_row_is_due(self):
        program = read(TWICE)
        whole = run(program, [21], 1)
        # Just four steps are needed: the last one is a return, behind which no row is due.
        self.assertEqual(run(program, [21], 1, 4), whole)
        self.assertEqual(run(program, [21], 1, 5), whole)
        for most in range(4):
            states = [state for state in whole[0] if state[0] <= most]
            self.assertEqual(run(program, [21], 1, most), (states, ("spent",)))

    def test_spent_behind_a_return_where_a_call_was_open(self):
        told = run(read(TWICE), [21], 0, 3)
        self.assertEqual(told[0][-2:], [(3, 1, 2, 1), (3, 0, 1, 1)])
        self.assertEqual(told[1], ("spent",))

    def test_most_0(self):
        for text in ("function f\nreturn x", "function f\nto 1", "function f\nx = call f\nreturn x"):
            self.assertEqual(run(read(text), [], 0, 0), ([(0, 0, 0, 1)], ("spent",)))

    def test_most_1(self):
        self.assertEqual(run(read("function f\nreturn x"), [], 0, 1), ([(0, 0, 0, 1), (1, 0, 1, 1)], ("done", 0)))
        self.assertEqual(run(read("function f\nto 1"), [], 0, 1), ([(0, 0, 0, 1), (1, 0, 0, 1)], ("spent",)))

    def test_most_not_told(self):
        states, end = run(read("function f\nto 1"), [])
        self.assertEqual((len(states), states[-1], end), (401, (400, 0, 0, 1), ("spent",)))

    def test_most_by_its_place_and_by_its_name(self):
        program = read("function f a\nto 1")
        for most in (0, 1, 5, 400):
            wanted = ([(k, 0, 0, 3) for k in range(most + 1)], ("spent",))
            self.assertEqual(run(program, [1], 1, most), wanted)
            self.assertEqual(run(program, [1], 1, most=most), wanted)
        self.assertEqual(run(program, [1], most=2), ([(k, 0, 0, 1) for k in range(3)], ("spent",)))

    def test_the_arguments(self):
        wanted = [("program", inspect.Parameter.empty), ("values", inspect.Parameter.empty), ("dyed", 0), ("most", 400)]
        told = [(name, parameter.default) for name, parameter in inspect.signature(run).parameters.items()]
        self.assertEqual(told, wanted)

    def test_dyed_not_told(self):
        program = read("function f a\nreturn a")
        self.assertEqual(run(program, [3]), ([(0, 0, 0, 1), (1, 0, 1, 1)], ("done", 3)))
        self.assertEqual(run(program, [3]), run(program, [3], 0))

    def test_four_hundred_steps_to_the_end(self):
        # Three steps a round for n rounds, one ahead of them and two behind.
        text = "function f n\none = 1\nif n to 4\nreturn n\nn = n - one\nto 2"
        states, end = run(read(text), [132])
        self.assertEqual((states[-1], end), ((399, 0, 5, 1), ("done", 0)))
        states, end = run(read(text), [133])
        self.assertEqual((states[-1][0], end), (400, ("spent",)))


def drawn_run(seed):
    """A program, values, a mask and a most."""
    draw = random.Random(seed)
    program = drawn_program(seed)
    values = [draw.choice((0, 0, 1, 2, 3, 10 ** 9, MOST_VALUE)) for k in range(program[0][1])]
    return program, values, draw.choice((0, 1, 3, 5, 10, 15, 63)), draw.choice((400, 400, 100, 20, 7, 3, 0))


class Drawn(RunCase):
    def test_the_runs(self):
        ended, dyed_ends, outs = 0, 0, 0
        for seed in range(1000):
            program, values, dyed, most = drawn_run(seed)
            told = run(program, values, dyed, most)
            self.assert_kinds(told)
            self.assertEqual(told, plain_run(program, values, dyed, most), (program, values, dyed, most))
            ended += told[1][0] == "done"
            dyed_ends += told[1][0] == "done" and told[0][-1][3] > 1
            outs += sum([one[0] == other[0] for one, other in zip(told[0], told[0][1:])])
        self.assertGreater(ended, 250)
        self.assertGreater(dyed_ends, 50)
        self.assertGreater(outs, 300)

    def test_within_the_chart(self):
        dyed_facts = 0
        for seed in range(1000):
            program, values, dyed, most = drawn_run(seed)
            chart = chart_of(program)
            start = 1 | (dyed & (1 << program[0][1]) - 1) << 1
            rows, found = front(chart, start)
            told = claims(chart, start, rows)
            for steps, f, p, mask in run(program, values, dyed, most)[0]:
                for d in range(chart[f][1]):
                    if mask >> d & 1:
                        self.assertIn((f, p, d), found, program)
                        self.assertLessEqual(told[found[(f, p, d)]][4], steps, program)
                        dyed_facts += d > 0
                self.assertEqual(mask >> chart[f][1], 0)
                self.assertEqual(mask & 1, 1)
        self.assertGreater(dyed_facts, 5000)


class NothingChanged(RunCase):
    def test_what_is_handed_in_stays(self):
        for seed in range(100):
            program, values, dyed, most = drawn_run(seed)
            before = copy.deepcopy((program, values))
            run(program, values, dyed, most)
            self.assertEqual((program, values), before)
        values = [5, 6]
        run(read("function f a b\na = 1\nb = a + a\nreturn b"), values, 3)
        self.assertEqual(values, [5, 6])

    def test_what_is_told_is_the_askers_own(self):
        program = read(TWICE)
        values = [4]
        wanted = plain_run(program, [4], 1, 400)
        told = run(program, values, 1)
        run(program, values, 1)[0].clear()
        values[0] = 9
        values.append(7)
        program.append(program[0])
        self.assertEqual(told, wanted)
        self.assertEqual(run(read(TWICE), [4], 1), wanted)


if __name__ == "__main__":
    unittest.main()
