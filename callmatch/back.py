"""The least costs from all places and facts to one, asked from the back."""

from callmatch.charts import table_past
from callmatch.line import Offers
from callmatch.shorts import all_shorts
from callmatch.tables import facts_in


def back(chart, f, p, d):
    """For each (g, q, e) from which some moves lead to place p of function f with fact d: their least cost."""
    return costs_along(leads(chart), (f, p, d))


def costs_along(ahead, key):
    """The least costs to this key, by what `leads` tells of the chart."""
    costs = {}
    offers = Offers()
    offers.offer(0, key, None)
    settled = offers.settled()
    while settled is not None:
        here = settled[1]
        costs[here] = settled[0]
        for before, cost in ahead.get(here, []):
            offers.offer(settled[0] + cost, before, None)
        settled = offers.settled()
    return costs


def leads(chart):
    """By each (g, q, e) that an edge leads to: pairs (where it leads from, cost), a call shut again being one edge."""
    ahead = {}
    short_costs = all_shorts(chart)
    for f, function in enumerate(chart):
        for edge in function[2]:
            for d in range(function[1]):
                before = (f, edge[1], d)
                for there, cost in led_to(short_costs, f, edge, d):
                    ahead.setdefault(there, []).append((before, cost))
    return ahead


def led_to(short_costs, f, edge, d):
    """All that an edge of function f leads to with fact d, as pairs (where, cost)."""
    behind = [((f, edge[2], e), edge[3]) for e in facts_in(table_past(edge)[d])]
    if edge[0] == "step":
        return behind
    g = edge[4]
    for b in facts_in(edge[5][d]):
        # The call may be left open, so its entry is led to by itself.
        behind.append(((g, 0, b), edge[3]))
        behind.extend(shut_again(short_costs[g], f, edge, b))
    return behind


def shut_again(costs, f, edge, b):
    """All that a call from function f leads to with b at the entry of the called one, by the short cuts of that."""
    behind = []
    for facts, cost in costs.items():
        if facts[0] == b:
            behind.extend([((f, edge[2], e), edge[3] + cost) for e in facts_in(edge[6][facts[1]])])
    return behind
