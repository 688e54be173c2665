"""Plain readings of points 19 to 25, slow and sentence by sentence, that the program's answers are held against."""

import re

NAME = r"(?!(?:function|call|dye|wash|if|to|return|back|here)(?![a-z]))[a-z]{1,8}(?= |$)"
NUMBER = r"(?:0|[1-9][0-9]{0,17})"
FORMS = {
    "number": f"({NAME}) = ({NUMBER})",
    "copy": f"({NAME}) = ({NAME})",
    "does": f"({NAME}) = ({NAME}) ([-+*]) ({NAME})",
    "call": f"({NAME}) = call ({NAME})((?: {NAME})*)",
    "dye": f"dye ({NAME})",
    "wash": f"wash ({NAME})",
    "if": f"if ({NAME}) to ({NUMBER})",
    "to": f"to ({NUMBER})",
    "return": f"return ({NAME})",
}
HEAD = f"function ({NAME})((?: {NAME})*)"


def plain_rows(text):
    """(number, row) of all rows with words, one blank between words."""
    rows = [(n, re.sub(" +", " ", row).strip(" ")) for n, row in enumerate(re.split("\n", text), 1)]
    return [(n, row) for n, row in rows if row]


def form_of(row):
    """(sort, groups) of a function's row; (None, None) where it has no form."""
    for sort, form in FORMS.items():
        found = re.fullmatch(form, row)
        if found:
            return sort, found.groups()
    return None, None


def names_in(sort, groups):
    """The names of variables in a row, from left to right."""
    if sort == "call":
        return [groups[0]] + groups[2].split()
    return [group for group in groups if re.fullmatch(NAME, group)]


def blocks_of(rows):
    """Rows ahead of the first function, and for each function its rows, its own first."""
    blocks = [[]]
    for n, row in rows:
        if row.split(" ")[0] == "function":
            blocks.append([])
        blocks[-1].append((n, row))
    return blocks[0], blocks[1:]


def wrong_heads(blocks):
    """(number, why) of all functions' rows that are wrong."""
    for f, block in enumerate(blocks):
        n, row = block[0]
        found = re.fullmatch(HEAD, row)
        given = found[2].split() if found else []
        if not found:
            yield n, "a function's row without form"
        elif found[1] in [other[0][1].split(" ")[1] for other in blocks[:f] if " " in other[0][1]]:
            yield n, "an earlier function's name"
        if len(set(given)) < len(given):
            yield n, "like given names"
        if len(set(given)) > 4:
            yield n, "a fifth given name"
        if f >= 6:
            yield n, "a seventh function"
        if len(block) == 1:
            yield n, "a function without rows"


def wrong_in_block(block, heads):
    """(number, why) of all rows behind a function's own that are wrong."""
    names = block[0][1].split(" ")[2:]
    own = block[1:]
    for k, (n, row) in enumerate(own):
        sort, groups = form_of(row)
        if sort is None:
            yield n, "no form"
            continue
        names += names_in(sort, groups)
        if len(set(names)) > 4:
            yield n, "a fifth variable"
        if k >= 9:
            yield n, "a tenth row"
        if sort in ("if", "to") and int(groups[-1]) not in range(1, len(own) + 1):
            yield n, "a K that is no row"
        if sort == "call" and groups[1] not in heads:
            yield n, "a call of no function"
        elif sort == "call" and len(groups[2].split()) != heads[groups[1]]:
            yield n, "a call with other names"
        if k == len(own) - 1 and sort not in ("to", "return"):
            yield n, "a last row that goes on"


def wrong_sums(blocks):
    """(number, why) of all rows with which there are more than 24, an if counted twice."""
    total = 0
    for block in blocks:
        for n, row in block[1:]:
            total += 2 if row.startswith("if ") else 1
            if total > 24:
                yield n, "more than 24"


def all_wrong(text):
    """(number, why) of all rows that are wrong; behind the first one some may be told that aren't."""
    rows = plain_rows(text)
    if not rows:
        return [(text.count("\n") + 2, "no row")]
    ahead, blocks = blocks_of(rows)
    wrong = [(n, "ahead of the first function") for n, row in ahead]
    wrong += list(wrong_heads(blocks)) + list(wrong_sums(blocks))
    heads = {}
    for block in reversed(blocks):
        words = block[0][1].split(" ")
        if len(words) > 1:
            heads[words[1]] = len(words) - 2
    for block in blocks:
        wrong += list(wrong_in_block(block, heads))
    return wrong


def first_wrong(text):
    """(number of the first wrong row, all that is wrong with it), or None."""
    wrong = all_wrong(text)
    if not wrong:
        return None
    first = min([n for n, why in wrong])
    return first, sorted([why for n, why in wrong if n == first])


def plain_row(sort, groups, variables, functions):
    """A row as point 19 tells it."""
    numbers = [variables.index(name) for name in names_in(sort, groups)]
    if sort == "number":
        return ("number", numbers[0], int(groups[1]))
    if sort == "does":
        return ("does", numbers[0], groups[2], numbers[1], numbers[2])
    if sort == "call":
        return ("call", numbers[0], functions.index(groups[1]), tuple(numbers[1:]))
    if sort in ("if", "to"):
        return (sort,) + tuple(numbers) + (int(groups[-1]) - 1,)
    return (sort,) + tuple(numbers)


def plain_read(text):
    """The program of a text that isn't wrong."""
    blocks = blocks_of(plain_rows(text))[1]
    functions = [block[0][1].split(" ")[1] for block in blocks]
    program = []
    for block in blocks:
        given = block[0][1].split(" ")[2:]
        forms = [form_of(row) for n, row in block[1:]]
        variables = list(dict.fromkeys(given + sum([names_in(*form) for form in forms], [])))
        rows = [plain_row(*form, variables, functions) for form in forms]
        program.append((functions[len(program)], len(given), tuple(variables), tuple(rows)))
    return program


def becomes(row, d, last):
    """The facts that fact d becomes by a row that is no call, sentence by sentence."""
    told = {d}
    sort = row[0]
    if sort == "return":
        return {0: {0}, 1 + row[1]: {last}}.get(d, set())
    if sort in ("number", "wash", "copy", "does") and d == 1 + row[1]:
        told = set()
    if sort == "copy" and d == 1 + row[2]:
        told.add(1 + row[1])
    if sort == "does" and d in (1 + row[3], 1 + row[4]):
        told.add(1 + row[1])
    if sort == "dye" and d == 0:
        told.add(1 + row[1])
    return told


def table(facts):
    """The table that brings d to what is the d-th of these sets."""
    return tuple([sum([2 ** e for e in told]) for told in facts])


def call_tables(row, n, m):
    """into, back and over of a call, from a function of n facts to one of m."""
    x, args = row[1], row[3]
    into = [{0}] + [{1 + i for i, v in enumerate(args) if 1 + v == d} for d in range(1, n)]
    back = [{0}] + [{1 + x} if d == m - 1 else set() for d in range(1, m)]
    over = [set() if d in (0, 1 + x) else {d} for d in range(n)]
    return table(into), table(back), table(over)


def plain_chart(program):
    """The chart of a program."""
    chart = []
    for name, given, variables, rows in program:
        n = len(variables) + 2
        edges = []
        for p, row in enumerate(rows):
            past = table([becomes(row, d, n - 1) for d in range(n)]) if row[0] != "call" else None
            if row[0] == "call":
                m = len(program[row[2]][2]) + 2
                edges.append(("call", p, p + 1, 1, row[2]) + call_tables(row, n, m))
            elif row[0] == "if":
                edges += [("step", p, p + 1, 1, past), ("step", p, row[2], 1, past)]
            elif row[0] == "to":
                edges.append(("step", p, row[1], 1, past))
            else:
                edges.append(("step", p, len(rows) if row[0] == "return" else p + 1, 1, past))
        chart.append((len(rows) + 1, n, edges))
    return chart


class Spent(Exception):
    pass


class PlainRun:
    """A run by recursion, a call of Python's for each call of the program's."""

    def __init__(self, program, most):
        self.program, self.most, self.steps, self.states = program, most, 0, []

    def come(self, f, p, dyed, last=False):
        mask = 1 | sum([2 ** (1 + v) for v in dyed]) | (2 ** (1 + len(self.program[f][2])) if last else 0)
        self.states.append((self.steps, f, p, mask))

    def function(self, f, values, dyes):
        """The value given back, and whether it is dyed."""
        rows = self.program[f][3]
        held = dict(enumerate(values + [0] * (len(self.program[f][2]) - len(values))))
        dyed = {v for v, dye in enumerate(dyes) if dye}
        p = 0
        while True:
            self.come(f, p, dyed)
            if self.steps == self.most:
                raise Spent
            self.steps += 1
            row = rows[p]
            if row[0] == "return":
                self.come(f, len(rows), (), row[1] in dyed)
                return held[row[1]], row[1] in dyed
            p = self.row(row, p, held, dyed)

    def row(self, row, p, held, dyed):
        """The place behind a row that is no return."""
        if row[0] == "to":
            return row[1]
        if row[0] == "if":
            return p + 1 if held[row[1]] == 0 else row[2]
        x = row[1]
        value, dye = held[x], row[0] == "dye"
        if row[0] == "number":
            value = row[2]
        elif row[0] == "copy":
            value, dye = held[row[2]], row[2] in dyed
        elif row[0] == "does":
            y, z = held[row[3]], held[row[4]]
            value = {"+": y + z, "-": y - z, "*": y * z}[row[2]] % 10 ** 18
            dye = bool(dyed & {row[3], row[4]})
        elif row[0] == "call":
            value, dye = self.function(row[2], [held[v] for v in row[3]], [v in dyed for v in row[3]])
        held[x] = value
        dyed.discard(x)
        dyed.update([x] if dye else [])
        return p + 1


def plain_run(program, values, dyed, most):
    """(states, end) of a run."""
    going = PlainRun(program, most)
    try:
        value, dye = going.function(0, values, [dyed & 2 ** v for v in range(program[0][1])])
    except Spent:
        return going.states, ("spent",)
    return going.states, ("done", value)
