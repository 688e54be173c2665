"""Charts and papers drawn by a number, the same ones each time, for tests over many of them."""

import random

MOST_COST = 10 ** 18


def drawn_table(draw, n, to, full):
    """A table of n facts, to so many: each pair is in it with a chance of full out of ten."""
    return tuple([sum([1 << e for e in range(to) if draw.randrange(10) < full]) for d in range(n)])


def drawn_edge(draw, sizes, f, full, most_cost):
    places, facts = sizes[f]
    p, q, cost = draw.randrange(places), draw.randrange(places), draw.randint(1, most_cost)
    if draw.randrange(2) == 0:
        return ("step", p, q, cost, drawn_table(draw, facts, facts, full))
    g = draw.randrange(len(sizes))
    into = drawn_table(draw, facts, sizes[g][1], full)
    back = drawn_table(draw, sizes[g][1], facts, full)
    return ("call", p, q, cost, g, into, back, drawn_table(draw, facts, facts, full // 2))


def drawn_chart(seed, functions=3, places=4, facts=3, edges=12, full=4, most_cost=9):
    """A chart of at most so many functions, places, facts, edges and cost."""
    draw = random.Random(seed)
    many = draw.randint(1, functions)
    sizes = [(draw.randint(1, places), draw.randint(1, facts)) for f in range(many)]
    chart = [size + ([],) for size in sizes]
    for k in range(draw.randint(0, edges)):
        f = draw.randrange(many)
        chart[f][2].append(drawn_edge(draw, sizes, f, full, most_cost))
    return chart


def largest_chart(seed, full=10, most_cost=MOST_COST, calls=None):
    """Six functions of ten places and six facts, 24 edges; so many calls, or as they are drawn."""
    draw = random.Random(seed)
    sizes = [(10, 6)] * 6
    chart = [(10, 6, []) for f in range(6)]
    k = 0
    while k < 24:
        edge = drawn_edge(draw, sizes, k % 6, full, most_cost)
        if calls is None or (edge[0] == "call") == (k < calls):
            chart[k % 6][2].append(edge)
            k += 1
    return chart


def drawn_start(seed, chart):
    return random.Random(seed).randrange(1 << chart[0][1])


def place_of(claim):
    """The function and place that a claim comes to."""
    return (claim[1], claim[3]) if claim[0] == "within" else (claim[1], claim[2])


def drawn_row(draw, chart, told):
    """A row behind those that claim what is told, often a right one; None where there is none of the sort drawn."""
    sort, e = draw.choice(("begin", "start", "step", "over", "short", "in", "along")), draw.randrange(3)
    if sort == "begin":
        return (sort, draw.randrange(len(chart)), e)
    if sort == "start":
        return (sort, e)
    if sort == "along":
        pairs = [
            (k, j) for k, one in enumerate(told) if one[0] == "at" and one[2] == 0
            for j, other in enumerate(told) if other[:3] == ("within", one[1], one[3])
        ]
        return (sort,) + draw.choice(pairs) if pairs else None
    claimed, edged = "at" if sort == "in" else "within", "step" if sort == "step" else "call"
    pairs = [
        (k, n) for k, claim in enumerate(told) if claim[0] == claimed
        for n, edge in enumerate(chart[claim[1]][2]) if edge[0] == edged and edge[1] == place_of(claim)[1]
    ]
    if not pairs:
        return None
    k, n = draw.choice(pairs)
    if sort != "short":
        return (sort, k, n, e)
    g = chart[told[k][1]][2][n][4]
    ends = [j for j, claim in enumerate(told) if claim[0] == "within" and place_of(claim) == (g, chart[g][0] - 1)]
    return (sort, k, n, draw.choice(ends), e) if ends else None
