"""The least costs of all places and facts from the start, with a paper."""

from callmatch.charts import edges_from, start_facts
from callmatch.line import Offers
from callmatch.papers import claims
from callmatch.shorts import inner
from callmatch.tables import facts_in


def front(chart, start):
    """(rows, found): a paper, and for each (f, p, d) that a way leads to the row of its least cost."""
    inside = inner(chart)
    rows = inside[0]
    alongs = by_entry(claims(chart, start, rows), inside[1])
    found = {}
    offers = Offers()
    for d in start_facts(chart, start):
        offers.offer(0, (0, 0, d), ("start", d))
    settled = offers.settled()
    while settled is not None:
        key = settled[1]
        found[key] = len(rows)
        rows.append(settled[2])
        if key[1] == 0:
            offer_alongs(offers, settled[0], found[key], alongs[(key[0], key[2])])
        offer_ins(offers, chart, settled[0], key, found[key])
        settled = offers.settled()
    return (rows, found)


def by_entry(told, found):
    """By (function, fact at its entry): tuples (cost, key, row) of all that is led to from there."""
    alongs = {}
    for key, j in found.items():
        there = (told[j][5], (key[0], key[2], key[3]), j)
        alongs.setdefault((key[0], key[1]), []).append(there)
    return alongs


def offer_alongs(offers, cost, k, alongs):
    """Offer all that is led to inside the function from its entry, come to by row k."""
    for more, key, j in alongs:
        offers.offer(cost + more, key, ("along", k, j))


def offer_ins(offers, chart, cost, key, k):
    """Offer the entries of all functions that are called from a place come to by row k."""
    for n, edge in edges_from(chart, key[0], key[1]):
        if edge[0] == "call":
            for e in facts_in(edge[5][key[2]]):
                offers.offer(cost + edge[3], (edge[4], 0, e), ("in", k, n, e))
