"""Programs read from texts: points 19 and 20, and 2 over them."""

import copy
import random
import unittest

from callmatch.errors import CallError, NoText
from callmatch.programs import read
from drawn_programs import drawn_program, loose_text, text_of, text_rows
from plain_programs import first_wrong, plain_read

ODD_WORDS = """function call dye wash if to return back here = + - * / a b c x y z f g A x1 abcdefgh abcdefghi 0 1 2 3 9
    10 01 +1 7 123456789012345678 1234567890123456789 ~""".split()


class TextCase(unittest.TestCase):
    def assert_read(self, text, wanted):
        """Just this program, and of the kinds told."""
        told = read(text)
        self.assertEqual(told, wanted, text)
        self.assertIs(type(told), list)
        for function in told:
            self.assertIs(type(function), tuple)
            self.assertEqual([type(part) for part in function], [str, int, tuple, tuple])
            for row in function[3]:
                self.assertIs(type(row), tuple)
                for part in row:
                    self.assertIn(type(part), (str, int, tuple))
        self.assertIsNone(first_wrong(text), text)

    def assert_rows(self, head, rows, variables, wanted):
        """One function, called f, of these rows (texts), read to these variables and rows."""
        given = len(head.split()) - 2
        self.assert_read("\n".join([head] + rows), [("f", given, variables, wanted)])

    def assert_wrong(self, text, row):
        with self.assertRaises(NoText) as caught:
            read(text)
        self.assertIs(type(caught.exception), NoText)
        self.assertIsInstance(caught.exception, CallError)
        self.assertIs(type(caught.exception.row), int)
        self.assertEqual(caught.exception.row, row, text)

    def assert_wrong_row(self, row):
        """A row that no function may have, whatever stands around it."""
        self.assert_wrong(f"function f x y\n{row}\nreturn x", 2)
        self.assert_wrong(f"function f x y\nx = y\n\n{row}\nreturn x", 4)
        self.assert_wrong(f"function f x y\nreturn x\nfunction g x y\nreturn y\n{row}\nreturn x", 5)


class Forms(TextCase):
    def test_a_number(self):
        for n in (0, 1, 7, 10, 10 ** 17, 10 ** 18 - 1):
            self.assert_rows("function f x", [f"x = {n}", "return x"], ("x",), (("number", 0, n), ("return", 0)))

    def test_a_copy(self):
        self.assert_rows("function f x y", ["y = x", "return x"], ("x", "y"), (("copy", 1, 0), ("return", 0)))
        self.assert_rows("function f x", ["x = x", "return x"], ("x",), (("copy", 0, 0), ("return", 0)))

    def test_each_op(self):
        for op in "+-*":
            wanted = (("does", 2, op, 0, 1), ("return", 0))
            self.assert_rows("function f x y z", [f"z = x {op} y", "return x"], ("x", "y", "z"), wanted)
            wanted = (("does", 0, op, 0, 0), ("return", 0))
            self.assert_rows("function f x", [f"x = x {op} x", "return x"], ("x",), wanted)

    def test_dye_and_wash(self):
        for sort in ("dye", "wash"):
            wanted = ((sort, 1), (sort, 0), ("return", 0))
            self.assert_rows("function f x y", [f"{sort} y", f"{sort} x", "return x"], ("x", "y"), wanted)

    def test_if_and_to(self):
        rows = ["if x to 1", "if y to 4", "to 3", "to 2"]
        wanted = (("if", 0, 0), ("if", 1, 3), ("to", 2), ("to", 1))
        self.assert_rows("function f x y", rows, ("x", "y"), wanted)

    def test_return(self):
        wanted = (("return", 1), ("return", 0))
        self.assert_rows("function f x y", ["return y", "return x"], ("x", "y"), wanted)

    def test_a_call_of_itself(self):
        self.assert_rows("function f", ["x = call f", "return x"], ("x",), (("call", 0, 0, ()), ("return", 0)))
        names = "abcd"
        for many in range(1, 5):
            variables = tuple(names[:many])
            args = " ".join(variables)
            wanted = (("call", 0, 0, tuple(range(many))), ("return", 0))
            self.assert_rows(f"function f {args}", [f"a = call f {args}", "return a"], variables, wanted)

    def test_one_variable_given_twice(self):
        wanted = (("call", 1, 0, (1, 1, 0)), ("return", 0))
        self.assert_rows("function f a b c", ["b = call f b b a", "return a"], ("a", "b", "c"), wanted)

    def test_calls_of_functions_ahead_and_behind(self):
        text = "function f x\nx = call g x x\nreturn x\nfunction g a b\na = call f b\na = call g b a\nreturn a"
        wanted = [
            ("f", 1, ("x",), (("call", 0, 1, (0, 0)), ("return", 0))),
            ("g", 2, ("a", "b"), (("call", 0, 0, (1,)), ("call", 0, 1, (1, 0)), ("return", 0))),
        ]
        self.assert_read(text, wanted)

    def test_one_to_six_functions(self):
        for many in range(1, 7):
            names = "abcdef"[:many]
            text = "\n".join([f"function {name}\nx = call {names[-1]}\nreturn x" for name in names])
            rows = (("call", 0, many - 1, ()), ("return", 0))
            self.assert_read(text, [(name, 0, ("x",), rows) for name in names])

    def test_given_names(self):
        for many in range(5):
            given = ("x", "yy", "function"[:7], "abcdefgh")[:many]
            self.assert_read(" ".join(("function", "f") + given) + "\nto 1", [("f", many, given, (("to", 0),))])

    def test_a_function_of_no_variables(self):
        self.assert_read("function f\nto 2\nto 1", [("f", 0, (), (("to", 1), ("to", 0)))])

    def test_one_to_nine_rows(self):
        for many in range(1, 10):
            rows = [f"x = {k}" for k in range(many - 1)] + [f"to {many}"]
            wanted = tuple([("number", 0, k) for k in range(many - 1)] + [("to", many - 1)])
            self.assert_rows("function f x", rows, ("x",), wanted)


class Variables(TextCase):
    def test_in_the_order_in_which_they_stand_first(self):
        wanted = (("does", 0, "+", 1, 2), ("copy", 3, 0), ("return", 3))
        self.assert_rows("function f", ["c = b + a", "d = c", "return d"], ("c", "b", "a", "d"), wanted)

    def test_behind_the_given_ones(self):
        wanted = (("does", 2, "-", 1, 0), ("copy", 0, 3), ("return", 2))
        self.assert_rows("function f z y", ["b = y - z", "z = a", "return b"], ("z", "y", "b", "a"), wanted)

    def test_in_a_call_from_left_to_right(self):
        text = "function f\nc = call g b a\nreturn c\nfunction g x y\nreturn x"
        rows = (("call", 0, 1, (1, 2)), ("return", 0))
        self.assert_read(text, [("f", 0, ("c", "b", "a"), rows), ("g", 2, ("x", "y"), (("return", 0),))])

    def test_each_form_can_bring_one(self):
        rows = {
            "x = 5": ("number", 0, 5), "x = x": ("copy", 0, 0), "dye x": ("dye", 0), "wash x": ("wash", 0),
            "if x to 1": ("if", 0, 0), "return x": ("return", 0), "x = x * x": ("does", 0, "*", 0, 0),
            "x = call f": ("call", 0, 0, ()),
        }
        for row, wanted in rows.items():
            self.assert_rows("function f", [row, "to 1"], ("x",), (wanted, ("to", 0)))

    def test_called_like_a_function(self):
        text = "function f g\nf = call g f\nreturn f\nfunction g f\ng = f\nreturn g"
        rows = (("call", 1, 1, (1,)), ("return", 1))
        others = (("copy", 1, 0), ("return", 1))
        self.assert_read(text, [("f", 1, ("g", "f"), rows), ("g", 1, ("f", "g"), others)])

    def test_each_function_has_its_own(self):
        text = "function f a\nb = a\nreturn b\nfunction g b\na = b\nreturn a"
        rows = (("copy", 1, 0), ("return", 1))
        self.assert_read(text, [("f", 1, ("a", "b"), rows), ("g", 1, ("b", "a"), rows)])

    def test_four_in_each_of_six_functions(self):
        parts = [f"function {name} a b\nc = d\nreturn a" for name in "abcdef"]
        rows = (("copy", 2, 3), ("return", 0))
        self.assert_read("\n".join(parts), [(name, 2, ("a", "b", "c", "d"), rows) for name in "abcdef"])


class Blanks(TextCase):
    WANTED = [("f", 1, ("x", "y"), (("does", 1, "+", 0, 0), ("return", 1)))]

    def test_several_between_words(self):
        self.assert_read("function   f  x\ny  =     x + x\nreturn       y", self.WANTED)

    def test_at_both_ends(self):
        self.assert_read("   function f x \n y = x + x      \n  return y", self.WANTED)

    def test_empty_rows_and_rows_of_blanks(self):
        self.assert_read("\n\nfunction f x\n\n   \ny = x + x\n \nreturn y\n\n    \n", self.WANTED)

    def test_words_not_parted(self):
        for row in ("x=1", "x= 1", "x =1", "x = x+x", "dyex", "ifx to 1", "if x to1", "to1", "returnx", "x = callf x"):
            self.assert_wrong(f"function f x\n{row}\nreturn x", 2)
        self.assert_wrong("functionf x\nreturn x", 1)

    def test_only_blanks_part_words(self):
        for sign in "\t\r\v\f\x1c\x85\xa0\u2028":
            self.assert_wrong(f"function f x\nx{sign}= 1\nreturn x", 2)
            self.assert_wrong(f"function f x\n{sign}\nreturn x", 2)


class WrongForms(TextCase):
    def test_no_form(self):
        rows = """x|=|x =|= x|x y|x = y z|x = y +|x = + y|x = y + z z|x = y / z|x = y + 1|x = 1 + y|x = - y|x == y|7 = x
            |x = y = z|x := 1|x 1|dye|dye x y|dye 1|wash|wash x y|wash 7|if|if x|if x to|if x 1|if x to 1 1|if x then 1
            |if 1 to 1|if to 1|to|to x|to 1 1|return|return x y|return 0|x = call|x = call 1|x = call f 1 x|call f x y
            |x = call f x y +|x = call = x y|X = 1|x = Y|Dye x|DYE x|here|back|goto 1|;|~"""
        for row in rows.split("|"):
            self.assert_wrong_row(row.strip())

    def test_wrong_names(self):
        for name in ("abcdefghi", "X", "x1", "x_y", "if", "to", "call", "dye", "wash", "return", "back", "here", "1x"):
            forms = ["{} = 1", "{} = x", "x = {}", "x = {} + y", "x = y + {}", "{} = x + y", "dye {}", "wash {}",
                     "return {}", "if {} to 1", "x = call f {} x", "x = call f x {}", "{} = call f x y", "x = call {}"]
            for form in forms:
                self.assert_wrong_row(form.replace("{}", name))

    def test_wrong_numbers(self):
        for number in ("01", "00", "+1", "-1", "1_0", "1.0", "1" * 19, "1a"):
            for form in ("x = {}", "if x to {}", "to {}"):
                self.assert_wrong_row(form.replace("{}", number))

    def test_a_wrong_last_row(self):
        for row in ("x", "return", "to", "to x", "return 1"):
            self.assert_wrong(f"function f x\nx = 1\n{row}", 3)

    def test_ahead_of_the_first_function(self):
        for row in ("x = 1", "return x", "to 1", "x", "functions f", "Function f"):
            self.assert_wrong(f"{row}\nfunction f x\nreturn x", 1)
            self.assert_wrong(f"\n  \n{row}\nfunction f x\nreturn x", 3)
            self.assert_wrong(row, 1)


class WrongFunctions(TextCase):
    def test_no_form(self):
        for row in ("function", "function 1", "function F", "function if", "function f 1", "function f x = 1",
                    "function function", "function abcdefghi", "function f X", "function f x here", "function = 1",
                    "function f x back", "function f abcdefghi", "function f function", "function f +"):
            self.assert_wrong(f"{row}\nto 1", 1)
            self.assert_wrong(f"function a\nto 1\n\n{row}\nto 1", 4)

    def test_an_earlier_functions_name(self):
        self.assert_wrong("function f\nto 1\nfunction f\nto 1", 3)
        self.assert_wrong("function f x\nto 1\nfunction g\nto 1\nfunction f\nto 1", 5)

    def test_like_given_names(self):
        self.assert_wrong("function f x x\nto 1", 1)
        self.assert_wrong("function f x y z x\nto 1", 1)
        self.assert_wrong("function f x x x x x\nto 1", 1)
        self.assert_read("function f f\nto 1", [("f", 1, ("f",), (("to", 0),))])

    def test_a_fifth_given_name(self):
        self.assert_wrong("function f a b c d e\nto 1", 1)

    def test_a_seventh_function(self):
        texts = [f"function {name}\nto 1" for name in "abcdefgh"]
        self.assert_wrong("\n".join(texts[:7]), 13)
        self.assert_wrong("\n".join(texts), 13)
        self.assertEqual(len(read("\n".join(texts[:6]))), 6)

    def test_a_function_without_rows(self):
        self.assert_wrong("function f", 1)
        self.assert_wrong("function f x\n\n  \n", 1)
        self.assert_wrong("function f\nto 1\nfunction g", 3)
        self.assert_wrong("function f\nto 1\nfunction g\n\nfunction h\nto 1", 3)
        self.assert_wrong("function f\nfunction g\nto 1", 1)

    def test_a_last_row_that_is_no_to_or_return(self):
        for row in ("x = 1", "x = x", "x = x + x", "x = call f x", "dye x", "wash x", "if x to 1"):
            self.assert_wrong(f"function f x\nto 1\n{row}", 3)
            self.assert_wrong(f"function f x\nto 1\n{row}\n\n", 3)
            self.assert_wrong(f"function f x\n{row}\nfunction g\nto 1", 2)
            self.assert_wrong(f"function e\nto 1\nfunction f x\n{row}", 4)


class TooMany(TextCase):
    def test_a_fifth_variable(self):
        self.assert_wrong("function f a b c d\nx = 1\nto 1", 2)
        self.assert_wrong("function f a b c\nx = 1\n\ny = 1\nto 1", 4)
        self.assert_wrong("function f\na = b + c\nd = e\nto 1", 3)
        self.assert_wrong("function f\na = b + c\nd = e + f\nto 1", 3)
        self.assert_wrong("function f\na = b\nc = d\nreturn e", 4)

    def test_a_fifth_variable_in_each_form(self):
        rows = ("e = 1", "a = e", "e = a", "a = b + e", "a = e + b", "e = a + b", "dye e", "wash e", "if e to 1",
                "return e", "e = call f a b c d", "a = call f a b c e")
        for row in rows:
            self.assert_wrong(f"function f a b c d\n{row}\nto 1", 2)

    def test_a_called_functions_name_is_no_variable(self):
        rows = (("call", 0, 0, (0, 1, 2, 3)), ("return", 0))
        self.assert_read("function f a b c d\na = call f a b c d\nreturn a", [("f", 4, ("a", "b", "c", "d"), rows)])

    def test_a_tenth_row(self):
        self.assert_wrong("function f\n" + "to 1\n" * 10, 11)
        self.assert_wrong("function f\n" + "to 1\n\n" * 12, 20)
        self.assert_wrong("function f\nto 1\nfunction g\n" + "to 1\n" * 10, 13)
        self.assertEqual(len(read("function f\n" + "to 1\n" * 9)[0][3]), 9)

    def test_more_than_24(self):
        full = "function {}\n" + "to 1\n" * 8
        text = full.replace("{}", "a") + full.replace("{}", "b") + full.replace("{}", "c")
        self.assertEqual(len(read(text)), 3)
        self.assert_wrong(text + "function d\nto 1", 29)
        self.assert_wrong(text + "to 1", 28)
        self.assert_wrong(text + "function d\nto 1\nto 1", 29)

    def test_an_if_counted_twice(self):
        full = "function {} x\n" + "if x to 1\n" * 7 + "to 1\n"
        self.assertEqual(len(read(full.replace("{}", "a"))), 1)
        text = full.replace("{}", "a") + "function b x\n" + "if x to 1\n" * 4
        self.assertEqual(len(read(text + "to 1")), 2)
        self.assert_wrong(text + "to 1\nto 1", 16)
        self.assert_wrong(text + "if x to 1\nto 1", 15)
        # With 22 an if makes 24, with 23 it makes 25.
        nine = "function {} x\n" + "if x to 1\n" * 4 + "to 1\n"
        text = nine.replace("{}", "a") + nine.replace("{}", "b") + "function c x\n"
        self.assert_wrong(text + "to 1\n" * 4 + "if x to 1\nto 1", 19)
        self.assert_wrong(text + "to 1\n" * 5 + "if x to 1\nto 1", 19)
        self.assertEqual(len(read(text + "to 1\n" * 3 + "if x to 1\nto 1")), 3)


class WrongRows(TextCase):
    def test_a_k_of_0(self):
        self.assert_wrong("function f x\nto 0", 2)
        self.assert_wrong("function f x\nif x to 0\nto 1", 2)

    def test_a_k_beyond_the_functions_rows(self):
        self.assert_wrong("function f x\nto 2", 2)
        self.assert_wrong("function f x\nif x to 3\nto 1", 2)
        self.assert_wrong("function f x\nif x to 2\nto 3", 3)
        self.assert_wrong("function f x\nto 2\nfunction g\nto 1\nto 1", 2)
        self.assert_wrong("function f x\n\nto 3\n\nto 1\n\n", 3)
        self.assert_wrong("function f x\nto 123456789012345678", 2)
        self.assert_read("function f x\n\nto 2\n\nto 1\n\n", [("f", 1, ("x",), (("to", 1), ("to", 0)))])

    def test_wrong_rows_behind_count_for_a_k(self):
        self.assert_wrong("function f x\nto 3\nx = 1\n???\n", 4)
        self.assert_wrong("function f x\nto 4\nx = 1\n???\n", 2)
        # A tenth row is wrong itself, but may be gone to.
        self.assert_wrong("function f x\nto 10\n" + "to 1\n" * 9, 11)
        self.assert_wrong("function f x\nto 11\n" + "to 1\n" * 9, 2)
        # A wrong row ends nothing, a wrong function's row does.
        self.assert_wrong("function f x\nto 2\nfunction 7\nto 1", 2)
        self.assert_wrong("function f x\nto 1\nfunction 7\nto 1", 3)

    def test_a_call_of_a_name_that_the_text_lacks(self):
        self.assert_wrong("function f x\nx = call g\nreturn x", 2)
        self.assert_wrong("function f x\nx = call x x\nreturn x", 2)
        self.assert_wrong("function f g\ng = call g\nreturn g", 2)
        self.assert_wrong("function f x\nx = call g\nreturn x\nfunctions g\nto 1", 2)

    def test_a_call_with_too_few_or_too_many_names(self):
        for many in range(5):
            given = " ".join("abcd"[:many])
            for handed in range(6):
                row = "x = call g" + " x" * handed
                text = f"function f x\n{row}\nreturn x\nfunction g {given}\nto 1"
                if handed == many:
                    self.assertEqual(len(read(text)), 2)
                else:
                    self.assert_wrong(text, 2)
                    self.assert_wrong(f"function g {given}\nto 1\nfunction f x\n{row}\nreturn x", 4)

    def test_a_call_of_a_function_whose_own_row_has_no_form(self):
        for behind in ("A", "1", "=", "if", "abcdefghi"):
            self.assert_wrong(f"function f x\nx = call g x\nreturn x\nfunction g {behind}\nto 1", 4)
            self.assert_wrong(f"function f x\nx = call g\nreturn x\nfunction g {behind}\nto 1", 2)
            self.assert_wrong(f"function f x\nx = call g x x\nreturn x\nfunction g {behind}\nto 1", 2)
        self.assert_wrong("function f x\nx = call g x x\nreturn x\nfunction g y y\nto 1", 4)
        self.assert_wrong("function f x\nx = call g x\nreturn x\nfunction g y y\nto 1", 2)
        self.assert_wrong("function f x\nx = call g x x x x x\nreturn x\nfunction g a b c d e\nto 1", 4)
        self.assert_wrong("function f x\nx = call g x x x x\nreturn x\nfunction g a b c d e\nto 1", 2)

    def test_a_call_of_a_function_without_rows_or_one_too_many(self):
        self.assert_wrong("function f x\nx = call g\nreturn x\nfunction g", 4)
        six = "".join([f"function {name}\nto 1\n" for name in "abcde"])
        self.assert_wrong(f"{six}function f x\nx = call g\nreturn x\nfunction g\nto 1", 14)

    def test_a_call_where_two_functions_have_the_same_name(self):
        text = "function f x\n{}\nreturn x\nfunction g a\nto 1\nfunction g a b\nto 1"
        self.assert_wrong(text.replace("{}", "x = call g x"), 6)
        self.assert_wrong(text.replace("{}", "x = call g x x"), 2)
        text = "function f x\n{}\nreturn x\nfunction g A B\nto 1\nfunction g a\nto 1"
        self.assert_wrong(text.replace("{}", "x = call g x"), 2)
        self.assert_wrong(text.replace("{}", "x = call g x x"), 4)

    def test_a_call_of_a_wrong_name_that_a_function_has(self):
        self.assert_wrong("function f x\nx = call G\nreturn x\nfunction G\nto 1", 2)
        self.assert_wrong("function f x\nx = call if\nreturn x\nfunction if\nto 1", 2)

    def test_the_first_of_several(self):
        self.assert_wrong("function f x\nx = 01\nto 9\nx = call g", 2)
        self.assert_wrong("function f x\nx = 1\nto 9\nx = call g", 3)
        self.assert_wrong("function f x\nx = 1\nto 1\nx = call g\nfunction f", 4)
        self.assert_wrong("function f x x\nx = 01", 1)
        self.assert_wrong("x\nfunction f x x\nx = 01", 1)
        self.assert_wrong("function f x\nif x to 9\nx = 1\nfunction g\n", 2)
        self.assert_wrong("function f x\nif x to 2\nx = 1\nfunction g\n", 3)

    def test_no_row_left(self):
        for text, row in (("", 2), (" ", 2), ("\n", 3), ("\n\n", 4), ("   \n  \n ", 4), ("\n" * 10, 12)):
            self.assert_wrong(text, row)


def with_fault(draw, rows):
    """The rows of words with something done to them, which may leave a text or not."""
    rows = copy.deepcopy(rows)
    deed = draw.randrange(11)
    k = draw.randrange(len(rows))
    j = draw.randrange(len(rows[k]))
    if deed <= 2:
        rows[k][j] = draw.choice(ODD_WORDS + draw.choice(rows))
    elif deed == 3:
        rows[k].insert(j, draw.choice(ODD_WORDS))
    elif deed == 4:
        rows[k].pop(j)
    elif deed == 5:
        rows.pop(k)
    elif deed == 6:
        rows.insert(k, list(draw.choice(rows)))
    elif deed == 7:
        names = [words[1] for words in rows if words[0] == "function" and len(words) > 1] + ["g"]
        rows.insert(k, ["function", draw.choice(names)] + list("wxyz"[:draw.randrange(3)]))
        rows.insert(k, ["to", "1"])
    elif deed == 8:
        rows.extend([["function", draw.choice(("gg", "hh"))], ["to", "1"]])
    elif deed == 9:
        rows[0].extend(draw.choice((rows[0][-1:], ["a"], ["b", "c"])))
    else:
        rows.insert(k, draw.choice((["to", "3"], ["dye", "x"], ["if", "x", "to", "4"], ["x", "=", "y"])))
    return [words for words in rows if words] or [["to", "1"]]


class Drawn(TextCase):
    def test_texts_of_programs(self):
        for seed in range(400):
            program = drawn_program(seed)
            rows = text_rows(program)
            self.assert_read(text_of(rows), program)
            self.assert_read(loose_text(random.Random(seed), rows), program)
            self.assertEqual(plain_read(text_of(rows)), program)

    def test_texts_with_faults(self):
        seen = {}
        right = 0
        for seed in range(4000):
            draw = random.Random(seed)
            rows = text_rows(drawn_program(seed % 500))
            for k in range(draw.choice((1, 1, 2, 3))):
                rows = with_fault(draw, rows)
            text = loose_text(draw, rows)
            wrong = first_wrong(text)
            if wrong is None:
                self.assert_read(text, plain_read(text))
                right += 1
            else:
                self.assert_wrong(text, wrong[0])
                if len(wrong[1]) == 1:
                    seen[wrong[1][0]] = seen.get(wrong[1][0], 0) + 1
        self.assertGreater(right, 400)
        # Each of these was the one and only thing wrong with the first wrong row.
        for why in ("a function's row without form", "an earlier function's name", "a seventh function", "no form",
                    "a function without rows", "a fifth variable", "a tenth row", "a K that is no row",
                    "a call of no function", "a call with other names", "a last row that goes on", "more than 24",
                    "ahead of the first function", "like given names"):
            self.assertGreater(seen.get(why, 0), 9, why)


class NothingChanged(TextCase):
    def test_what_is_told_is_the_askers_own(self):
        text = text_of(text_rows(drawn_program(3)))
        wanted = drawn_program(3)
        told = read(text)
        told.clear()
        self.assertEqual(read(text), wanted)
        told = read(text)
        read(text).append(("more", 0, (), ()))
        self.assertEqual(told, wanted)

    def test_a_refusal_leaves_nothing_behind(self):
        text = "function f x\nx = call g\nreturn x"
        self.assert_wrong(text, 2)
        self.assertEqual(len(read(text + "\nfunction g\nto 1")), 2)
        self.assert_wrong(text, 2)


if __name__ == "__main__":
    unittest.main()
