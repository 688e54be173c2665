"""A desk that answers in texts what is told of a program's chart."""

from callmatch.back import costs_along, leads
from callmatch.errors import NoName
from callmatch.front import front
from callmatch.making import chart_of, start_of
from callmatch.papers import claims
from callmatch.programs import read
from callmatch.unroll import unrolled
from callmatch.ways import stops


class Desk:
    """A program's text, and a mask of the given variables of function 0 that are dyed at first."""

    def __init__(self, text, dyed=0):
        self.program = read(text)
        self.chart = chart_of(self.program)
        self.start = start_of(self.program, dyed)
        told = front(self.chart, self.start)
        self.rows = told[0]
        self.found = told[1]
        self.claimed = claims(self.chart, self.start, self.rows)
        self.ahead = leads(self.chart)

    def cost(self, name, row, fact):
        """The least cost from the start, as a text, or `none`."""
        key = key_of(self.program, name, row, fact)
        return str(self.claimed[self.found[key]][4]) if key in self.found else "none"

    def way(self, name, row, fact):
        """A way of the least cost, a text for each move, or None where there is no way; TooLong beyond 400 moves."""
        key = key_of(self.program, name, row, fact)
        if key not in self.found:
            return None
        told = unrolled(self.chart, self.start, self.rows, self.found[key])
        behind = stops(self.chart, self.start, told[0], told[1])[1:]
        return [move_text(self.program, move, stop) for move, stop in zip(told[1], behind)]

    def costs_to(self, name, row, fact):
        """The least costs from the back, a text for each place and fact from which some moves lead, sorted."""
        costs = costs_along(self.ahead, key_of(self.program, name, row, fact))
        return sorted([cost_text(self.program, there, cost) for there, cost in costs.items()])


def fact_names(function):
    """The names of a function's facts in its chart, in order."""
    return ["here"] + list(function[2]) + ["back"]


def key_of(program, name, row, fact):
    """The numbers of function, place and fact that are asked for by their names; or NoName."""
    names = [function[0] for function in program]
    if name not in names:
        raise NoName(f"no function {name!r}")
    f = names.index(name)
    if not 1 <= row <= len(program[f][3]) + 1:
        raise NoName(f"no row {row} of {name}")
    facts = fact_names(program[f])
    if fact not in facts:
        raise NoName(f"no variable {fact!r} of {name}")
    return (f, row - 1, facts.index(fact))


def move_text(program, move, stop):
    """The word of a move, and the place come to, told of by the stop behind it."""
    sort = move[0]
    name = program[stop[0]][0]
    row = stop[1] + 1
    return f"{sort} {name} {row}"


def cost_text(program, key, cost):
    function = program[key[0]]
    name = function[0]
    row = key[1] + 1
    fact = fact_names(function)[key[2]]
    return f"{name} {row} {fact} {cost}"
