"""The least costs inside of functions, with a paper, and the short cuts from entry to exit."""

from callmatch.charts import edges_from, exit_of, table_past
from callmatch.line import Offers
from callmatch.papers import claims
from callmatch.tables import facts_in


def inner(chart):
    """(rows, found): a paper, and for each (f, a, p, d) that some moves lead to the row of its least cost."""
    search = Search(chart)
    search.begin()
    settled = search.offers.settled()
    while settled is not None:
        search.settle(settled[0], settled[1], settled[2])
        settled = search.offers.settled()
    return (search.rows, search.found)


def shorts(chart, f):
    """The least costs of function f from a fact at its entry to one at its exit, by pairs of these."""
    return all_shorts(chart)[f]


def all_shorts(chart):
    """The short cuts of all functions, in order."""
    inside = inner(chart)
    told = claims(chart, 0, inside[0])
    costs = [{} for function in chart]
    for key, k in inside[1].items():
        if key[2] == exit_of(chart, key[0]):
            costs[key[0]][(key[1], key[3])] = told[k][5]
    return costs


class Search:
    """The search for inner costs: least costs first, so that a row goes only by rows that stand already."""

    def __init__(self, chart):
        self.chart = chart
        self.offers = Offers()
        self.rows = []
        self.found = {}
        # Both by (function, fact at its entry): calls that wait for its exit, and the ends come to there.
        self.calls = {}
        self.ends = {}

    def begin(self):
        for f, function in enumerate(self.chart):
            for d in range(function[1]):
                self.offers.offer(0, (f, d, 0, d), ("begin", f, d))

    def settle(self, cost, key, row):
        """Write the row down, and offer all that one edge more leads to."""
        k = len(self.rows)
        self.rows.append(row)
        self.found[key] = k
        # Ahead of the edges, so that a call can find the very end that it is made from.
        if key[2] == exit_of(self.chart, key[0]):
            self.come_to_end(cost, key, k)
        for n, edge in edges_from(self.chart, key[0], key[2]):
            self.go_past(cost, key, k, n, edge)
            if edge[0] == "call":
                self.go_in(cost, key, k, n, edge)

    def go_past(self, cost, key, k, n, edge):
        sort = "step" if edge[0] == "step" else "over"
        for e in facts_in(table_past(edge)[key[3]]):
            self.offers.offer(cost + edge[3], (key[0], key[1], edge[2], e), (sort, k, n, e))

    def go_in(self, cost, key, k, n, edge):
        call = (cost + edge[3], key, k, n, edge)
        for b in facts_in(edge[5][key[3]]):
            entered = (edge[4], b)
            self.calls.setdefault(entered, []).append(call)
            for end in self.ends.get(entered, []):
                self.come_back(call, end)

    def come_to_end(self, cost, key, k):
        end = (cost, key[3], k)
        entered = (key[0], key[1])
        self.ends.setdefault(entered, []).append(end)
        for call in self.calls.get(entered, []):
            self.come_back(call, end)

    def come_back(self, call, end):
        """Offer what a call, (cost, key, row, number, edge), and an end, (cost, fact, row), lead to together."""
        key = call[1]
        edge = call[4]
        for e in facts_in(edge[6][end[1]]):
            row = ("short", call[2], call[3], end[2], e)
            self.offers.offer(call[0] + end[0], (key[0], key[1], edge[2], e), row)
