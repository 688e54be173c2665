"""The desk: point 26, and 2 and 3 over it."""

import copy
import inspect
import unittest

from callmatch.back import back
from callmatch.desk import Desk
from callmatch.errors import CallError, NoName, NoText, TooLong
from callmatch.front import front
from callmatch.making import chart_of
from callmatch.papers import claims
from callmatch.programs import read
from callmatch.unroll import unrolled
from callmatch.ways import walked
from callmatch.writer import written
from drawn_programs import drawn_program
from plain import plain_back, plain_inside, plain_places

TEXT = """function main a
b = call twice a
if b to 4
dye a
return b

function twice x
y = x + x
return y

function other
dye v
return v"""

# h has 7 moves, g 6 * (2 + 7) + 1, and the calls of f 7 * (2 + 55): the wash is the 400th move, the return the 401st.
LONG = "\n".join(
    ["function f"] + ["x = call g"] * 7 + ["wash x", "return x", "function g"] + ["x = call h"] * 6
    + ["return x", "function h"] + ["x = 1"] * 6 + ["return x"]
)


def facts_of(function):
    return ("here",) + function[2] + ("back",)


def asked_of(program):
    """All that can be asked for, with its numbers: ((name, row, fact), (f, p, d))."""
    for f, function in enumerate(program):
        for p in range(len(function[3]) + 1):
            for d, fact in enumerate(facts_of(function)):
                yield (function[0], p + 1, fact), (f, p, d)


class DeskCase(unittest.TestCase):
    def assert_texts(self, told):
        self.assertIs(type(told), list)
        self.assertEqual([type(text) for text in told], [str] * len(told))

    def assert_desk(self, text, dyed, start):
        """All answers are those of front, back and unrolled on the program's chart; how many ways there were."""
        program = read(text)
        chart = chart_of(program)
        desk = Desk(text, dyed)
        rows, found = front(chart, start)
        told = claims(chart, start, rows)
        many = 0
        for asked, key in asked_of(program):
            cost = desk.cost(*asked)
            self.assertIs(type(cost), str)
            self.assertEqual(cost, str(told[found[key]][4]) if key in found else "none")
            self.assert_way(desk, asked, chart, start, program, rows, found.get(key))
            self.assert_costs_to(desk, asked, program, back(chart, *key))
            many += key in found
        return many

    def assert_way(self, desk, asked, chart, start, program, rows, k):
        if k is None:
            self.assertIsNone(desk.way(*asked))
            return
        try:
            fact, moves = unrolled(chart, start, rows, k)
        except TooLong:
            self.assertRaises(TooLong, desk.way, *asked)
            return
        wanted = []
        for at, move in enumerate(moves, start=1):
            f, p = walked(chart, start, fact, moves[:at])[:2]
            wanted.append(f"{move[0]} {program[f][0]} {p + 1}")
        told = desk.way(*asked)
        self.assert_texts(told)
        self.assertEqual(told, wanted)

    def assert_costs_to(self, desk, asked, program, costs):
        wanted = []
        for (f, p, d), cost in costs.items():
            wanted.append(f"{program[f][0]} {p + 1} {facts_of(program[f])[d]} {cost}")
        told = desk.costs_to(*asked)
        self.assert_texts(told)
        self.assertEqual(told, sorted(wanted))


class Cost(DeskCase):
    def test_costs(self):
        desk = Desk(TEXT, 1)
        wanted = {
            ("main", 1, "here"): "0", ("main", 1, "a"): "0", ("main", 1, "b"): "none", ("main", 2, "here"): "3",
            ("main", 2, "a"): "1", ("main", 2, "b"): "3", ("main", 4, "a"): "2", ("main", 5, "back"): "5",
            ("main", 5, "here"): "5", ("main", 5, "a"): "none", ("twice", 1, "x"): "1", ("twice", 2, "y"): "2",
            ("twice", 3, "back"): "3", ("twice", 3, "y"): "none", ("other", 1, "here"): "none",
            ("other", 3, "back"): "none",
        }
        for asked, cost in wanted.items():
            self.assertEqual(desk.cost(*asked), cost, asked)

    def test_dyed_not_told(self):
        desk = Desk(TEXT)
        self.assertEqual(desk.cost("main", 1, "a"), "none")
        self.assertEqual(desk.cost("main", 4, "a"), "5")
        self.assertEqual(desk.cost("main", 5, "back"), "none")
        self.assertEqual(desk.cost("main", 5, "here"), "5")
        told = [(name, parameter.default) for name, parameter in inspect.signature(Desk).parameters.items()]
        self.assertEqual(told, [("text", inspect.Parameter.empty), ("dyed", 0)])

    def test_bits_beyond_the_given_variables(self):
        text = "function f a b\nc = d\nc = a + b\nreturn c"
        for dyed in range(4):
            for beyond in (0, 4, 8, 16, 252, 1 << 70):
                told = Desk(text, dyed | beyond)
                self.assertEqual(told.cost("f", 1, "a"), "0" if dyed & 1 else "none")
                self.assertEqual(told.cost("f", 1, "b"), "0" if dyed & 2 else "none")
                self.assertEqual(told.cost("f", 2, "d"), "none")
                self.assertEqual(told.cost("f", 4, "back"), "3" if dyed else "none")

    def test_names_alike(self):
        # A variable may be called like a function, and in each function it is another one.
        text = "function f g\ndye g\ng = call g g\nreturn g\nfunction g f\ng = f\nreturn g"
        desk = Desk(text)
        self.assertEqual(desk.cost("f", 2, "g"), "1")
        self.assertEqual(desk.cost("g", 1, "f"), "2")
        self.assertEqual(desk.cost("g", 2, "g"), "3")
        self.assertEqual(desk.cost("f", 4, "back"), "5")


class Way(DeskCase):
    def test_ways(self):
        desk = Desk(TEXT, 1)
        inside = ["in twice 1", "step twice 2", "step twice 3"]
        wanted = {
            ("main", 1, "here"): [], ("main", 1, "a"): [], ("main", 1, "b"): None, ("other", 2, "here"): None,
            ("main", 2, "a"): ["over main 2"], ("main", 3, "a"): ["over main 2", "step main 3"],
            ("twice", 1, "here"): ["in twice 1"], ("twice", 3, "back"): inside,
            ("main", 2, "b"): inside + ["out main 2"], ("main", 2, "here"): inside + ["out main 2"],
            ("main", 4, "here"): inside + ["out main 2", "step main 4"],
            ("main", 5, "back"): inside + ["out main 2", "step main 4", "step main 5"],
        }
        for asked, way in wanted.items():
            self.assertEqual(desk.way(*asked), way, asked)

    def test_a_way_round_a_ring(self):
        text = "function f\nb = a\na = c\ndye c\nif d to 1\nreturn b"
        rounds = ["step f 2", "step f 3", "step f 4", "step f 1"]
        more = ["step f 2", "step f 3", "step f 4", "step f 1", "step f 2", "step f 3", "step f 4", "step f 5"]
        self.assertEqual(Desk(text).way("f", 6, "back"), rounds + more + ["step f 6"])

    def test_calls_left_open(self):
        text = "function f\nx = call g\nreturn x\nfunction g\nx = call h\nreturn x\nfunction h\ndye x\nreturn x"
        desk = Desk(text)
        self.assertEqual(desk.way("h", 2, "x"), ["in g 1", "in h 1", "step h 2"])
        wanted = ["in g 1", "in h 1", "step h 2", "step h 3", "out g 2", "step g 3", "out f 2", "step f 3"]
        self.assertEqual(desk.way("f", 3, "back"), wanted)

    def test_400_moves_and_401(self):
        desk = Desk(LONG)
        way = desk.way("f", 9, "here")
        self.assertEqual(len(way), 400)
        self.assertEqual(way[-2:], ["out f 8", "step f 9"])
        self.assertEqual(sum([text.startswith("out") for text in way]), 49)
        self.assertEqual(desk.cost("f", 9, "here"), "351")
        with self.assertRaises(TooLong) as caught:
            desk.way("f", 10, "here")
        self.assertIs(type(caught.exception), TooLong)
        # Refused is the way alone, and nothing else.
        self.assertEqual(desk.cost("f", 10, "here"), "352")
        self.assertIn("f 1 here 352", desk.costs_to("f", 10, "here"))
        self.assertEqual(desk.way("f", 9, "here"), way)

    def test_the_place_behind_an_out_is_the_callers(self):
        text = "function f a\nif a to 3\na = call g\na = call g\nreturn a\nfunction g\nreturn x"
        self.assertEqual(Desk(text).way("f", 4, "here"), ["step f 3", "in g 1", "step g 2", "out f 4"])
        self.assertEqual(Desk(text).way("f", 3, "here"), ["step f 3"])


class CostsTo(DeskCase):
    def test_costs(self):
        desk = Desk(TEXT)
        wanted = ["main 1 a 5", "main 2 b 2", "main 3 b 2", "main 4 b 1", "main 5 back 0"]
        self.assertEqual(desk.costs_to("main", 5, "back"), wanted)
        wanted = ["main 1 a 2", "twice 1 x 1", "twice 2 y 0"]
        self.assertEqual(desk.costs_to("twice", 2, "y"), wanted)
        self.assertEqual(desk.costs_to("main", 1, "a"), ["main 1 a 0"])
        self.assertEqual(desk.costs_to("other", 2, "v"), ["other 1 here 1", "other 1 v 1", "other 2 v 0"])
        wanted = ["main 1 here 3", "main 2 here 0"]
        self.assertEqual(desk.costs_to("main", 2, "here"), wanted)

    def test_dyes_at_first_change_nothing(self):
        for asked, key in asked_of(read(TEXT)):
            self.assertEqual(Desk(TEXT, 1).costs_to(*asked), Desk(TEXT).costs_to(*asked))

    def test_sorted_as_texts(self):
        text = "function f x\n" + "wash y\n" * 8 + "return x"
        wanted = ["f 10 back 0", "f 1 x 9"] + [f"f {row} x {10 - row}" for row in range(2, 10)]
        self.assertEqual(Desk(text).costs_to("f", 10, "back"), sorted(wanted))
        self.assertEqual(Desk(text).costs_to("f", 10, "back")[:3], ["f 1 x 9", "f 10 back 0", "f 2 x 8"])
        wanted = ["f 1 here 9", "f 10 here 0"] + [f"f {row} here {10 - row}" for row in range(2, 10)]
        self.assertEqual(Desk(text).costs_to("f", 10, "here"), wanted)

    def test_sorted_by_names_and_facts(self):
        text = "function zz\nx = call b\nreturn x\nfunction b\nwash a\ndye zz\nreturn zz"
        told = Desk(text).costs_to("zz", 3, "back")
        wanted = ["zz 1 here 5", "zz 2 x 1", "zz 3 back 0"]
        self.assertEqual(told, wanted)
        wanted = ["b 1 here 2", "b 2 here 1", "b 3 zz 0", "b 1 zz 2", "b 2 zz 1", "zz 1 here 3"]
        self.assertEqual(Desk(text).costs_to("b", 3, "zz"), sorted(wanted))


class NoNames(DeskCase):
    def assert_no_name(self, desk, *asked):
        for deed in (desk.cost, desk.way, desk.costs_to):
            with self.assertRaises(NoName) as caught:
                deed(*asked)
            self.assertIs(type(caught.exception), NoName)
            self.assertIsInstance(caught.exception, CallError)

    def test_a_name_that_is_not_the_programs(self):
        desk = Desk(TEXT, 1)
        for name in ("", "mai", "mainn", "a", "function", "call", "here", "back", "Main", " main", "main ", "0", "to"):
            self.assert_no_name(desk, name, 1, "here")

    def test_a_row_that_is_none(self):
        desk = Desk(TEXT, 1)
        for row in (0, -1, -4, -5, 6, 7, 100, 10 ** 20, -10 ** 20):
            self.assert_no_name(desk, "main", row, "here")
        for row in (0, -1, 4, 5):
            self.assert_no_name(desk, "twice", row, "here")

    def test_a_variable_that_the_function_lacks(self):
        desk = Desk(TEXT, 1)
        for fact in "x y v main function call dye wash if to return A Back 0 Here".split() + ["", "here ", " a", "a b"]:
            self.assert_no_name(desk, "main", 1, fact)
        for fact in ("a", "b", "v", "twice"):
            self.assert_no_name(desk, "twice", 1, fact)

    def test_asked_again_what_is_there_is_told(self):
        desk = Desk(TEXT, 1)
        before = self.answers(desk)
        self.assert_no_name(desk, "main", 6, "here")
        self.assert_no_name(desk, "maim", 1, "here")
        self.assert_no_name(desk, "main", 1, "x")
        self.assertEqual(self.answers(desk), before)

    def answers(self, desk):
        asked = [asked for asked, key in asked_of(read(TEXT))]
        return [(desk.cost(*each), desk.way(*each), desk.costs_to(*each)) for each in asked]

    def test_here_and_back_in_each_function(self):
        desk = Desk(TEXT, 1)
        for name, exit_row in (("main", 5), ("twice", 3), ("other", 3)):
            for fact in ("here", "back"):
                self.assertEqual(desk.costs_to(name, exit_row, fact).count(f"{name} {exit_row} {fact} 0"), 1)


class NoTexts(DeskCase):
    def test_refused_as_it_is_read(self):
        texts = {"": 2, "\n\n": 4, "x": 1, "function f": 1, "function f\n\nto 2": 3, "function f\nx = call g\nto 1": 2,
                 "function f\nto 1\nfunction f\nto 1": 3, "function f\nx = 01\nto 1": 2}
        for text, row in texts.items():
            for dyed in (0, 1, 5):
                with self.assertRaises(NoText) as caught:
                    Desk(text, dyed)
                self.assertEqual(caught.exception.row, row)
            self.assertRaises(NoText, Desk, text)


class Drawn(DeskCase):
    def test_all_answers(self):
        ways = 0
        for seed in range(120):
            program = drawn_program(seed)
            dyed = (0, 1, 2, 7, 15)[seed % 5]
            start = 1 | (dyed & (1 << program[0][1]) - 1) << 1
            ways += self.assert_desk(written(program), dyed, start)
        self.assertGreater(ways, 1000)

    def test_the_long_ones(self):
        self.assert_desk(LONG, 0, 1)

    def test_by_plain_reckonings(self):
        for seed in range(40):
            program = drawn_program(seed, functions=3, variables=2, rows=5)
            chart = chart_of(program)
            inside = plain_inside(chart)
            places = plain_places(chart, 1, inside)
            desk = Desk(written(program))
            for asked, key in asked_of(program):
                self.assertEqual(desk.cost(*asked), str(places.get(key, "none")))
                self.assert_costs_to(desk, asked, program, plain_back(chart, key, inside))
                if key in places and desk.way(*asked):
                    words = [text.split(" ") for text in desk.way(*asked)]
                    self.assertEqual(sum([word[0] != "out" for word in words]), places[key])
                    self.assertEqual(words[-1][1:], [asked[0], str(asked[1])])


class NothingChanged(DeskCase):
    def test_what_is_told_is_the_askers_own(self):
        desk = Desk(TEXT, 1)
        asked = ("main", 5, "back")
        wanted = copy.deepcopy((desk.cost(*asked), desk.way(*asked), desk.costs_to(*asked)))
        desk.way(*asked).clear()
        desk.costs_to(*asked).append("more")
        desk.way("main", 1, "here").append("more")
        self.assertEqual((desk.cost(*asked), desk.way(*asked), desk.costs_to(*asked)), wanted)
        self.assertEqual(desk.way("main", 1, "here"), [])
        other = Desk(TEXT)
        self.assertEqual(other.cost(*asked), "none")
        self.assertEqual((desk.cost(*asked), desk.way(*asked), desk.costs_to(*asked)), wanted)


if __name__ == "__main__":
    unittest.main()
