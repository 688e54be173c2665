"""Programs made to charts: fact 0 is that a place is come to, 1 + v that variable v is dyed there, the last one that
the value given back is dyed."""

from callmatch.tables import either, gathered, same


def chart_of(program):
    """The chart of a program."""
    chart = []
    for f, function in enumerate(program):
        edges = []
        for p, row in enumerate(function[3]):
            edges.extend(row_edges(program, f, p, row))
        chart.append((len(function[3]) + 1, facts_of(function), edges))
    return chart


def start_of(program, dyed):
    """The start by which a run begins whose given variables are dyed at first by this mask."""
    given = (1 << program[0][1]) - 1
    return (dyed & given) << 1 | 1


def facts_of(function):
    """How many facts a function of a program has in its chart."""
    return len(function[2]) + 2


def row_edges(program, f, p, row):
    """The edges that a row of function f, at place p, becomes."""
    if row[0] == "call":
        return [call_edge(program, f, p, row)]
    table = step_table(facts_of(program[f]), row)
    return [("step", p, q, 1, table) for q in places_behind(p, row, len(program[f][3]))]


def places_behind(p, row, exit_place):
    """The places that a row, but a call, at place p can lead to, in the order of its edges."""
    if row[0] == "if":
        return [p + 1, row[2]]
    if row[0] == "to":
        return [row[1]]
    return [exit_place] if row[0] == "return" else [p + 1]


def step_table(n, row):
    """What becomes of the n facts of a function by a row that is no call."""
    sort = row[0]
    if sort == "if" or sort == "to":
        return same(n)
    dyed = 1 + row[1]
    if sort == "dye":
        return either(same(n), gathered(n, [(0, dyed)]))
    if sort == "return":
        return gathered(n, [(0, 0), (dyed, n - 1)])
    # A number and a wash draw from none, and so leave the variable clean.
    drawn_from = {"copy": row[2:], "does": row[3:]}.get(sort, ())
    return either(without(n, (dyed,)), gathered(n, [(1 + v, dyed) for v in drawn_from]))


def call_edge(program, f, p, row):
    n = facts_of(program[f])
    g = row[2]
    inner_facts = facts_of(program[g])
    dyed = 1 + row[1]
    into = gathered(n, [(0, 0)] + [(1 + v, 1 + i) for i, v in enumerate(row[3])])
    back = gathered(inner_facts, [(0, 0), (inner_facts - 1, dyed)])
    # Fact 0 doesn't go past: behind the call one comes only where the called function gives back.
    return ("call", p, p + 1, 1, g, into, back, without(n, (0, dyed)))


def without(n, facts):
    """The table of n facts that brings each one but these to itself."""
    return gathered(n, [(d, d) for d in range(n) if d not in facts])
