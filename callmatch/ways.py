"""Ways: moves from the start, in which each return goes back to its own call."""

from callmatch.charts import edge_taken, exit_of, start_facts
from callmatch.errors import NoWay
from callmatch.tables import brings


def walked(chart, start, fact, moves):
    """(function, place, fact, cost, open) at the end of a way; or NoWay, with the number of the first wrong move."""
    return stops(chart, start, fact, moves)[-1]


def stops(chart, start, fact, moves):
    """What `walked` tells, of the way's beginning and behind each of its moves."""
    if fact not in start_facts(chart, start):
        raise NoWay(0)
    here = (0, 0, fact)
    cost = 0
    calls = []
    told = [here + (0, 0)]
    for at, move in enumerate(moves, start=1):
        edge = edge_of_move(chart, here, calls, move)
        if edge is None:
            raise NoWay(at)
        if move[0] == "out":
            caller = calls.pop()[0]
            here = (caller, edge[2], move[1])
        elif move[0] == "in":
            calls.append((here[0], edge))
            here = (edge[4], 0, move[2])
            cost += edge[3]
        else:
            here = (here[0], edge[2], move[2])
            cost += edge[3]
        told.append(here + (cost, len(calls)))
    return told


def edge_of_move(chart, here, calls, move):
    """The edge that a move goes along or back by, calls being the (function, edge) still open; None if it can't."""
    if move[0] != "out":
        return edge_taken(chart, here, move)
    if len(calls) == 0 or here[1] != exit_of(chart, here[0]):
        return None
    edge = calls[-1][1]
    return edge if brings(edge[6], here[2], move[1]) else None
