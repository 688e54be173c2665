"""Charts and papers drawn by a number, the same ones each time, for tests over many of them."""

import random

MOST_COST = 10 ** 18


def drawn_table(draw, n, to, full):
    """A table of n facts, to so many: each pair is in it with a chance of full out of ten."""
    return tuple([sum([1 << e for e in range(to) if draw.randrange(10) < full]) for d in range(n)])


def drawn_edge(draw, sizes, f, reached, full, most_cost):
    """An edge of function f, mostly from a place that is reached by those drawn already, often to its exit."""
    places, facts = sizes[f]
    p = draw.choice(reached) if draw.randrange(5) > 0 else draw.randrange(places)
    q = places - 1 if draw.randrange(3) == 0 else draw.randrange(places)
    cost = draw.randint(1, most_cost)
    if draw.randrange(2) == 0:
        return ("step", p, q, cost, drawn_table(draw, facts, facts, full))
    g = draw.randrange(len(sizes))
    into = drawn_table(draw, facts, sizes[g][1], full)
    back = drawn_table(draw, sizes[g][1], facts, full)
    return ("call", p, q, cost, g, into, back, drawn_table(draw, facts, facts, full // 3))


def drawn_chart(seed, functions=3, places=4, facts=3, edges=14, full=5, most_cost=9):
    """A chart of at most so many functions, places, facts, edges and cost."""
    draw = random.Random(seed)
    many = draw.randint(1, functions)
    sizes = [(draw.randint(1, places), draw.randint(1, facts)) for f in range(many)]
    chart = [size + ([],) for size in sizes]
    for k in range(draw.randint(edges // 3, edges)):
        f = draw.randrange(many)
        reached = [0] + [edge[2] for edge in chart[f][2]]
        chart[f][2].append(drawn_edge(draw, sizes, f, reached, full, most_cost))
    return chart


def largest_chart(seed, full=10, most_cost=MOST_COST, calls=5):
    """Six functions of ten places and six facts; in each four edges from the entry over three places to the exit.

    An edge is a call with a chance of calls out of ten; the last function has a step past them all.
    """
    draw = random.Random(seed)
    chart = []
    for f in range(6):
        midst = draw.sample(range(1, 9), 3)
        edges = []
        for p, q in zip([0] + midst, midst + [9]):
            tables = [drawn_table(draw, 6, 6, full) for k in range(3)]
            if draw.randrange(10) < calls:
                edges.append(("call", p, q, draw.randint(1, most_cost), draw.randrange(6)) + tuple(tables))
            else:
                edges.append(("step", p, q, draw.randint(1, most_cost), tables[0]))
        chart.append((10, 6, edges))
    chart[5][2][3] = ("step", 0, 9, draw.randint(1, most_cost), drawn_table(draw, 6, 6, full))
    return chart


def drawn_start(seed, chart):
    return random.Random(seed).randrange(1 << chart[0][1])


def place_of(claim):
    """The function and place that a claim comes to."""
    return (claim[1], claim[3]) if claim[0] == "within" else (claim[1], claim[2])


def drawn_row(draw, chart, told):
    """A row behind those that claim what is told, often a right one; None where there is none of the sort drawn."""
    sort, e = draw.choice(("begin", "start", "step", "over", "short", "in", "along")), draw.randrange(3)
    if sort == "begin":
        return (sort, draw.randrange(len(chart)), e)
    if sort == "start":
        return (sort, e)
    if sort == "along":
        pairs = [
            (k, j) for k, one in enumerate(told) if one[0] == "at" and one[2] == 0
            for j, other in enumerate(told) if other[:3] == ("within", one[1], one[3])
        ]
        return (sort,) + draw.choice(pairs) if pairs else None
    claimed, edged = "at" if sort == "in" else "within", "step" if sort == "step" else "call"
    pairs = [
        (k, n) for k, claim in enumerate(told) if claim[0] == claimed
        for n, edge in enumerate(chart[claim[1]][2]) if edge[0] == edged and edge[1] == place_of(claim)[1]
    ]
    if not pairs:
        return None
    k, n = draw.choice(pairs)
    if sort != "short":
        return (sort, k, n, e)
    g = chart[told[k][1]][2][n][4]
    ends = [j for j, claim in enumerate(told) if claim[0] == "within" and place_of(claim) == (g, chart[g][0] - 1)]
    return (sort, k, n, draw.choice(ends), e) if ends else None
