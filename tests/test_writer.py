"""Programs written: point 21, and 2 over it."""

import copy
import random
import unittest

from callmatch.programs import read
from callmatch.writer import written
from drawn_programs import drawn_program, loose_text, text_of, text_rows

FORMS = """function f a b
a = 0
a = 999999999999999999
b = a
c = a + b
c = b - a
a = c * c
c = call f a a
b = call g
return c
function g
dye x
wash x
if x to 5
to 1
return x
function hhhhhhhh a b c d
a = call hhhhhhhh d c b a
a = call f a a
if d to 1
to 4"""


class Written(unittest.TestCase):
    def assert_written(self, program, wanted):
        told = written(program)
        self.assertIs(type(told), str)
        self.assertEqual(told, wanted)

    def test_each_form(self):
        rows = {
            ("number", 0, 0): "a = 0", ("number", 1, 10 ** 18 - 1): "b = 999999999999999999",
            ("copy", 0, 1): "a = b", ("copy", 1, 1): "b = b", ("does", 0, "+", 1, 2): "a = b + c",
            ("does", 2, "-", 1, 0): "c = b - a", ("does", 1, "*", 1, 1): "b = b * b", ("call", 0, 1, ()): "a = call g",
            ("call", 2, 0, (1, 1, 0)): "c = call f b b a", ("call", 1, 2, (0,)): "b = call h a", ("dye", 2): "dye c",
            ("wash", 0): "wash a", ("if", 1, 0): "if b to 1", ("if", 0, 1): "if a to 2", ("to", 0): "to 1",
            ("to", 1): "to 2", ("return", 2): "return c",
        }
        for row, wanted in rows.items():
            program = [("f", 3, ("a", "b", "c"), (row, ("to", 0))), ("g", 0, (), (("to", 0),))]
            program.append(("h", 1, ("z",), (("return", 0),)))
            text = f"function f a b c\n{wanted}\nto 1\nfunction g\nto 1\nfunction h z\nreturn z"
            self.assert_written(program, text)

    def test_a_text_of_all_forms(self):
        self.assertEqual(written(read(FORMS)), FORMS)

    def test_only_given_names_stand_behind_the_functions_name(self):
        for given in range(5):
            head = " ".join(["function", "f"] + list("abcd")[:given])
            self.assert_written([("f", given, ("a", "b", "c", "d"), (("to", 0),))], head + "\nto 1")

    def test_nine_rows(self):
        program = [("f", 1, ("x",), (("dye", 0),) * 8 + (("to", 8),))]
        self.assert_written(program, "function f x\n" + "dye x\n" * 8 + "to 9")

    def test_many_blanks_and_empty_rows(self):
        text = "\n\n  function   f  a \n\n   \n a  =   a +  a\nif a    to 2  \n return a\n\n function g\n  to   1  \n\n"
        self.assertEqual(written(read(text)), "function f a\na = a + a\nif a to 2\nreturn a\nfunction g\nto 1")

    def test_drawn_programs(self):
        for seed in range(400):
            program = drawn_program(seed)
            told = written(program)
            self.assertEqual(told, text_of(text_rows(program)))
            self.assertEqual(read(told), program)
            self.assertEqual(written(read(loose_text(random.Random(seed), text_rows(program)))), told)
            self.assertEqual(told, told.strip())
            for twice in ("  ", "\n\n", " \n", "\n "):
                self.assertNotIn(twice, told)

    def test_what_is_handed_in_stays(self):
        for seed in range(40):
            program = drawn_program(seed)
            before = copy.deepcopy(program)
            written(program)
            self.assertEqual(program, before)


if __name__ == "__main__":
    unittest.main()
