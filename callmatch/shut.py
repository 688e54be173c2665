"""Costs looked at for whether any way costs less, by chart and start alone."""

from callmatch.charts import edges_from, exit_of, start_facts, table_past
from callmatch.tables import facts_in


def is_shut(chart, start, inside, places):
    """Whether no edge leads from what is told to what is not told, or is told at more than it costs by the edge."""
    return (
        begins_are_told(chart, start, inside, places)
        and inside_is_shut(chart, inside)
        and alongs_are_told(inside, places)
        and ins_are_told(chart, places)
    )


def begins_are_told(chart, start, inside, places):
    """Whether all that costs nothing is told at nought."""
    for f, function in enumerate(chart):
        for d in range(function[1]):
            if inside.get((f, d, 0, d)) != 0:
                return False
    return all([places.get((0, 0, d)) == 0 for d in start_facts(chart, start)])


def inside_is_shut(chart, inside):
    """Whether each edge leads from what is told inside a function to what is told there."""
    for key, cost in inside.items():
        for n, edge in edges_from(chart, key[0], key[2]):
            behind = (key[0], key[1], edge[2])
            spent = cost + edge[3]
            if not are_told(inside, behind, table_past(edge)[key[3]], spent):
                return False
            if edge[0] == "call" and not shorts_are_told(chart, inside, behind, edge, key[3], spent):
                return False
    return True


def shorts_are_told(chart, inside, behind, edge, d, spent):
    """Whether a call made with fact d is told behind it for each short cut of the called function."""
    g = edge[4]
    for b in facts_in(edge[5][d]):
        for y in range(chart[g][1]):
            end = (g, b, exit_of(chart, g), y)
            if end in inside and not are_told(inside, behind, edge[6][y], spent + inside[end]):
                return False
    return True


def alongs_are_told(inside, places):
    """Whether, from each entry that is come to, all places inside the function are told."""
    for key, more in inside.items():
        f = key[0]
        entry = (f, 0, key[1])
        if entry in places and not is_told(places, (f, key[2], key[3]), places[entry] + more):
            return False
    return True


def ins_are_told(chart, places):
    """Whether each call leads from a place that is told to entries that are told."""
    for key, cost in places.items():
        for n, edge in edges_from(chart, key[0], key[1]):
            if edge[0] == "call" and not are_told(places, (edge[4], 0), edge[5][key[2]], cost + edge[3]):
                return False
    return True


def are_told(costs, behind, mask, cost):
    """Whether each fact of the mask, at the place that the rest of its key tells, is told at this cost or less."""
    return all([is_told(costs, behind + (e,), cost) for e in facts_in(mask)])


def is_told(costs, key, cost):
    return key in costs and costs[key] <= cost
