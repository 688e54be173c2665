"""Texts read to programs."""

from callmatch.charts import MOST_EDGES, MOST_FUNCTIONS
from callmatch.errors import NoText
from callmatch.forms import sort_of, variables_in
from callmatch.words import is_name, number_of

MOST_VARIABLES = 4
MOST_ROWS = 9


def read(text):
    """The program that a text tells; or NoText, with the number of the first row that is wrong."""
    lines = lines_of(text)
    if len(lines) == 0:
        raise NoText(len(text.split("\n")) + 1)
    parts = parts_of(lines)
    heads = heads_of(parts)
    program = []
    edges = 0
    for f, part in enumerate(parts):
        check_head(heads, f, part)
        function = function_of(heads, part, edges)
        edges += sum([edges_of(row[0]) for row in function[3]])
        program.append(function)
    return program


def lines_of(text):
    """Pairs (number, words) of all rows of a text that have words."""
    lines = []
    for number, row in enumerate(text.split("\n"), start=1):
        words = [word for word in row.split(" ") if word != ""]
        if len(words) > 0:
            lines.append((number, words))
    return lines


def parts_of(lines):
    """For each function the list of its lines, its own row first."""
    parts = []
    for line in lines:
        if line[1][0] == "function":
            parts.append([line])
        elif len(parts) == 0:
            raise NoText(line[0])
        else:
            parts[-1].append(line)
    return parts


def heads_of(parts):
    """By each name of a function: the number of the first one called so, and how many words stand behind its name."""
    heads = {}
    for f, part in enumerate(parts):
        words = part[0][1]
        if len(words) > 1:
            heads.setdefault(words[1], (f, len(words) - 2))
    return heads


def check_head(heads, f, part):
    """Refuse a function's own row that is wrong, or has no rows behind it."""
    names = part[0][1][1:]
    given = names[1:]
    right = (
        len(part) > 1
        and f < MOST_FUNCTIONS
        and len(names) > 0
        and all([is_name(name) for name in names])
        and heads[names[0]][0] == f
        and len(given) <= MOST_VARIABLES
        and len(set(given)) == len(given)
    )
    if not right:
        raise NoText(part[0][0])


def function_of(heads, part, edges):
    """The function that its lines tell, behind functions of so many edges."""
    own = part[0][1]
    variables = own[2:]
    rows = []
    for number, words in part[1:]:
        sort = sort_of(words)
        edges += edges_of(sort)
        variables = with_more(variables, variables_in(sort, words))
        room = len(rows) < MOST_ROWS and edges <= MOST_EDGES and len(variables) <= MOST_VARIABLES
        if sort is None or not room or not is_there(heads, len(part) - 1, sort, words):
            raise NoText(number)
        rows.append(row_of(heads, variables, sort, words))
    if rows[-1][0] not in ("to", "return"):
        raise NoText(part[-1][0])
    return (own[1], len(own) - 2, tuple(variables), tuple(rows))


def edges_of(sort):
    """How many edges a row becomes in the program's chart."""
    return 2 if sort == "if" else 1


def with_more(variables, names):
    """The variables, and behind them those of the names that are none of them yet."""
    more = list(variables)
    for name in names:
        if name not in more:
            more.append(name)
    return more


def is_there(heads, rows, sort, words):
    """Whether what a row goes to is one of the function's rows, or what it calls is a function given so many."""
    if sort == "if" or sort == "to":
        return 1 <= number_of(words[-1]) <= rows
    if sort == "call":
        return words[3] in heads and heads[words[3]][1] == len(words) - 4
    return True


def row_of(heads, variables, sort, words):
    """The row that the words of this sort tell."""
    named = tuple([variables.index(name) for name in variables_in(sort, words)])
    if sort == "number":
        return (sort, named[0], number_of(words[2]))
    if sort == "does":
        return (sort, named[0], words[3], named[1], named[2])
    if sort == "call":
        return (sort, named[0], heads[words[3]][0], named[1:])
    if sort == "if" or sort == "to":
        return (sort,) + named + (number_of(words[-1]) - 1,)
    return (sort,) + named
