"""Programs and texts drawn by a number, the same ones each time, for tests over many of them."""

import random

KEPT = ("function", "call", "dye", "wash", "if", "to", "return", "back", "here")
SORTS = "number copy copy does does call call call call dye dye wash if if if to return".split()


def drawn_name(draw, taken):
    """A name that isn't among those taken."""
    while True:
        many = draw.choice((1, 1, 1, 2, 3, 8))
        name = "".join([draw.choice("abcdefghijklmnopqrstuvwxyz") for k in range(many)])
        if name not in KEPT and name not in taken:
            return name


def drawn_names(draw, many):
    names = []
    while len(names) < many:
        names.append(drawn_name(draw, names))
    return names


def drawn_target(draw, p, many):
    """A row that row p goes to, or a function that function p calls; mostly one behind it, so that runs do end."""
    if draw.randrange(4) > 0 and p + 1 < many:
        return draw.randrange(p + 1, many)
    return draw.randrange(many)


def drawn_row(draw, sort, f, p, variables, givens, many):
    """A row of this sort as row p of function f, which has so many variables and rows; a to where it has none."""
    if sort == "to" or variables == 0:
        return ("to", drawn_target(draw, p, many))
    x, y, z = [draw.randrange(variables) for k in range(3)]
    if sort == "call":
        g = drawn_target(draw, f, len(givens))
        return ("call", x, g, tuple([draw.randrange(variables) for k in range(givens[g])]))
    ends = {"copy": (y,), "does": (draw.choice("+-*"), y, z), "if": (drawn_target(draw, p, many),)}
    ends["number"] = (draw.choice((0, 0, 1, 2, 10, 10 ** 17, 10 ** 18 - 1)),)
    return (sort, x) + ends.get(sort, ())


def edges_of(rows):
    return sum([2 if row[0] == "if" else 1 for row in rows])


def drawn_rows(draw, f, variables, givens, many, edges):
    """So many rows of function f that become at most so many edges, the last one a to or a return."""
    rows = []
    for p in range(many - 1):
        row = drawn_row(draw, draw.choice(SORTS), f, p, variables, givens, many)
        if row[0] == "if" and edges_of(rows) + 2 + many - 1 - p > edges:
            row = ("dye", row[1])
        rows.append(row)
    last = "to" if draw.randrange(8) == 0 else "return"
    return rows + [drawn_row(draw, last, f, many - 1, variables, givens, many)]


def variables_of(row):
    """The numbers of variables in a row, from left to right."""
    if row[0] == "to":
        return []
    if row[0] == "call":
        return [row[1]] + list(row[3])
    return [row[k] for k in standing(row)]


def standing(row):
    """Where in a row, but a call or a to, numbers of variables stand."""
    return {"copy": (1, 2), "does": (1, 3, 4)}.get(row[0], (1,))


def renumbered(row, order):
    """The row with each variable's number changed to its place in the order."""
    if row[0] == "to":
        return row
    if row[0] == "call":
        return ("call", order.index(row[1]), row[2], tuple([order.index(v) for v in row[3]]))
    return tuple([order.index(part) if k in standing(row) else part for k, part in enumerate(row)])


def in_order(given, rows):
    """The rows with their variables numbered as they stand first behind the given ones, and how many there are."""
    order = list(range(given))
    for row in rows:
        order.extend([v for v in dict.fromkeys(variables_of(row)) if v not in order])
    return len(order), tuple([renumbered(row, order) for row in rows])


def drawn_program(seed, functions=6, variables=4, rows=9):
    """A program of at most so many functions, variables and rows; each variable that isn't given stands in a row."""
    draw = random.Random(seed)
    many = draw.randint(1, functions)
    sizes = [min(variables, draw.choice((0, 1, 2, 2, 2, 3, 3, 3, 4, 4))) for f in range(many)]
    givens = [draw.randint(0, size) for size in sizes]
    left = 24
    program = []
    for f, name in enumerate(drawn_names(draw, many)):
        most = min(rows, left - (many - 1 - f))
        length = draw.randint(1, max(1, min(most, 2 * (left // (many - f)))))
        raw = drawn_rows(draw, f, sizes[f], givens, length, left - (many - 1 - f))
        left -= edges_of(raw)
        size, ordered = in_order(givens[f], raw)
        program.append((name, givens[f], tuple(drawn_names(draw, size)), ordered))
    return program


def row_words(program, variables, row):
    """The words of a row."""
    names = [variables[v] for v in variables_of(row)]
    if row[0] == "number":
        return [names[0], "=", str(row[2])]
    if row[0] == "copy":
        return [names[0], "=", names[1]]
    if row[0] == "does":
        return [names[0], "=", names[1], row[2], names[2]]
    if row[0] == "call":
        return [names[0], "=", "call", program[row[2]][0]] + names[1:]
    if row[0] == "if":
        return ["if", names[0], "to", str(row[2] + 1)]
    if row[0] == "to":
        return ["to", str(row[1] + 1)]
    return [row[0]] + names


def text_rows(program):
    """The words of all rows of a program's text."""
    rows = []
    for name, given, variables, own in program:
        rows.append(["function", name] + list(variables[:given]))
        rows.extend([row_words(program, variables, row) for row in own])
    return rows


def text_of(rows):
    """The text of rows of words, without a blank too many."""
    return "\n".join([" ".join(words) for words in rows])


def loose_text(draw, rows):
    """A text of rows of words, with blanks at will, and empty rows and rows of blanks between them."""
    told = []
    for words in rows:
        while draw.randrange(4) == 0:
            told.append(" " * draw.randrange(3))
        parts = [" " * draw.randrange(3)]
        for word in words:
            parts.append(word + " " * draw.choice((1, 1, 1, 2, 5)))
        told.append("".join(parts).rstrip(" ") + " " * draw.randrange(2))
    return "\n".join(told + [" " * k for k in range(draw.randrange(3))])
