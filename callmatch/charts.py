"""Charts of functions that call one another: checked, turned, and asked for what a move goes by."""

from callmatch.errors import NoChart
from callmatch.tables import MOST_FACTS, brings, turned

MOST_FUNCTIONS = 6
MOST_PLACES = 10
MOST_EDGES = 24

# Which part of an edge is the table that a move of this sort goes by.
MOVE_TABLES = {"step": 4, "in": 5, "over": 7}


def checked(chart):
    """A copy of the chart; or NoChart, with the numbers of the first function or edge that is wrong."""
    check_functions(chart)
    # Behind the functions, since edges are held against the places and facts of any of them.
    check_edges(chart)
    return [(places, facts, list(edges)) for places, facts, edges in chart]


def check_functions(chart):
    """Refuse a wrong number of functions, and the first function with wrong places or facts."""
    if not 1 <= len(chart) <= MOST_FUNCTIONS:
        raise NoChart(-1, -1)
    for f, function in enumerate(chart):
        if not (1 <= function[0] <= MOST_PLACES and 1 <= function[1] <= MOST_FACTS):
            raise NoChart(f, -1)


def check_edges(chart):
    """Refuse the first edge that is wrong or one too many."""
    ahead = 0
    for f, function in enumerate(chart):
        for k, edge in enumerate(function[2]):
            if ahead == MOST_EDGES or not edge_fits(chart, function, edge):
                raise NoChart(f, k)
            ahead += 1


def edge_fits(chart, function, edge):
    """Whether an edge of this function has the numbers and tables of its sort."""
    places = function[0]
    facts = function[1]
    if not (0 <= edge[1] < places and 0 <= edge[2] < places and 1 <= edge[3] <= 10 ** 18):
        return False
    if edge[0] == "step":
        return table_fits(edge[4], facts, facts)
    if edge[0] == "call":
        return call_fits(chart, facts, edge)
    return False


def call_fits(chart, facts, edge):
    """Whether a call, from a function of so many facts, is of a function and has the tables for it."""
    if not 0 <= edge[4] < len(chart):
        return False
    inner_facts = chart[edge[4]][1]
    return (
        table_fits(edge[5], facts, inner_facts)
        and table_fits(edge[6], inner_facts, facts)
        and table_fits(edge[7], facts, facts)
    )


def table_fits(table, n, to):
    """Whether a table is one of n facts, to as many as told."""
    return len(table) == n and all([0 <= mask < (1 << to) for mask in table])


def turned_chart(chart):
    """The chart that goes the other way."""
    functions = []
    for places, facts, edges in chart:
        functions.append((places, facts, [turned_edge(chart, places, facts, edge) for edge in edges]))
    return functions


def turned_edge(chart, places, facts, edge):
    """An edge of a function of so many places and facts, from its end to its beginning."""
    p = places - 1 - edge[2]
    q = places - 1 - edge[1]
    cost = edge[3]
    if edge[0] == "step":
        return ("step", p, q, cost, turned(edge[4], facts))
    g = edge[4]
    # What was brought back is what goes in now, and the other way round.
    into = turned(edge[6], facts)
    back = turned(edge[5], chart[g][1])
    return ("call", p, q, cost, g, into, back, turned(edge[7], facts))


def exit_of(chart, f):
    """The place that is the exit of function f."""
    return chart[f][0] - 1


def start_facts(chart, start):
    """The facts of function 0 that are in the start, rising."""
    return [d for d in range(chart[0][1]) if start >> d & 1]


def edges_from(chart, f, p):
    """The edges of function f that lead from place p, as pairs of number and edge, in order."""
    return [(n, edge) for n, edge in enumerate(chart[f][2]) if edge[1] == p]


def table_past(edge):
    """The table by which one goes on behind an edge in the same function: a step's own, or a call's over."""
    return edge[MOVE_TABLES["step" if edge[0] == "step" else "over"]]


def edge_taken(chart, here, move):
    """The edge by which a step, over or in can be made from (function, place, fact); None where there is none."""
    edges = chart[here[0]][2]
    n = move[1]
    # Looked at here since an index below nought would otherwise count from the end.
    if not 0 <= n < len(edges):
        return None
    edge = edges[n]
    if edge[0] != ("step" if move[0] == "step" else "call") or edge[1] != here[1]:
        return None
    return edge if brings(edge[MOVE_TABLES[move[0]]], here[2], move[2]) else None
