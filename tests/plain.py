"""Plain reckonings, slow and without a queue, that the program's answers are held against."""


def facts(mask):
    return [d for d in range(6) if mask & 2 ** d]


def put_lower(costs, key, cost):
    """Whether the cost is new for the key, and then kept."""
    if key in costs and costs[key] <= cost:
        return False
    costs[key] = cost
    return True


def told_inside(chart, inside):
    """All (key, cost) that one edge more leads to from what is told inside."""
    for (f, a, p, d), c in list(inside.items()):
        for edge in chart[f][2]:
            if edge[1] == p:
                past = edge[4] if edge[0] == "step" else edge[7]
                for e in facts(past[d]):
                    yield (f, a, edge[2], e), c + edge[3]
                if edge[0] == "call":
                    g, into, back = edge[4:7]
                    for (h, b, x, y), more in list(inside.items()):
                        if h == g and x == chart[g][0] - 1 and b in facts(into[d]):
                            for e in facts(back[y]):
                                yield (f, a, edge[2], e), c + edge[3] + more


def told_places(chart, inside, places):
    """All (key, cost) that an along or an in leads to from the places told."""
    for (f, p, d), c in list(places.items()):
        if p == 0:
            for (h, a, q, e), more in inside.items():
                if (h, a) == (f, d):
                    yield (f, q, e), c + more
        for edge in chart[f][2]:
            if edge[0] == "call" and edge[1] == p:
                for e in facts(edge[5][d]):
                    yield (edge[4], 0, e), c + edge[3]


def plain_inside(chart):
    """The least inner costs: gone on with till no cost gets lower."""
    inside = {(f, d, 0, d): 0 for f, function in enumerate(chart) for d in range(function[1])}
    while any([put_lower(inside, key, cost) for key, cost in list(told_inside(chart, inside))]):
        pass
    return inside


def plain_places(chart, start, inside):
    """The least costs from the start: gone on with till no cost gets lower."""
    places = {(0, 0, d): 0 for d in facts(start)}
    while any([put_lower(places, key, cost) for key, cost in list(told_places(chart, inside, places))]):
        pass
    return places


def told_moves(chart, inside):
    """All (key, key behind, cost) of one move, or of a call that is shut again, by (function, place, fact)."""
    for f, function in enumerate(chart):
        for edge in function[2]:
            for d in range(function[1]):
                here = (f, edge[1], d)
                past = edge[4] if edge[0] == "step" else edge[7]
                for e in facts(past[d]):
                    yield here, (f, edge[2], e), edge[3]
                if edge[0] == "call":
                    g, into, back = edge[4:7]
                    for b in facts(into[d]):
                        yield here, (g, 0, b), edge[3]
                        for y in range(chart[g][1]):
                            if (g, b, chart[g][0] - 1, y) in inside:
                                for e in facts(back[y]):
                                    yield here, (f, edge[2], e), edge[3] + inside[(g, b, chart[g][0] - 1, y)]


def plain_back(chart, target, inside):
    """The least costs to the target from all (function, place, fact): gone on with till no cost gets lower."""
    moves = list(told_moves(chart, inside))
    costs = {target: 0}
    lower = True
    while lower:
        lower = False
        for here, there, cost in moves:
            if there in costs and put_lower(costs, here, cost + costs[there]):
                lower = True
    return costs


def plain_shut(chart, start, inside, places):
    """Point 14, sentence by sentence."""
    begins = [inside.get((f, d, 0, d)) == 0 for f, function in enumerate(chart) for d in range(function[1])]
    starts = [places.get((0, 0, d)) == 0 for d in facts(start)]
    within = [key in inside and inside[key] <= cost for key, cost in told_inside(chart, inside)]
    ways = [key in places and places[key] <= cost for key, cost in told_places(chart, inside, places)]
    return all(begins + starts + within + ways)


def moves_from(chart, state):
    """(state, cost) behind each move, a state being (function, place, fact, calls), calls tuples (function, edge)."""
    f, p, d, calls = state
    for n, edge in enumerate(chart[f][2]):
        if edge[1] == p:
            past = edge[4] if edge[0] == "step" else edge[7]
            for e in facts(past[d]):
                yield (f, edge[2], e, calls), edge[3]
            if edge[0] == "call":
                for e in facts(edge[5][d]):
                    yield (edge[4], 0, e, calls + ((f, n),)), edge[3]
    if p == chart[f][0] - 1 and calls:
        g, n = calls[-1]
        edge = chart[g][2][n]
        for e in facts(edge[6][d]):
            yield (g, edge[2], e, calls[:-1]), 0


def plain_states(chart, begins, most):
    """The least costs of all states come to from these by at most so many moves, by the moves alone."""
    costs = {state: 0 for state in begins}
    edge_of = dict(costs)
    for k in range(most):
        behind = {}
        for state, c in edge_of.items():
            for there, cost in moves_from(chart, state):
                if put_lower(costs, there, c + cost):
                    behind[there] = c + cost
        edge_of = behind
    return costs


def plain_ways(chart, start, most):
    """The least costs of ways of at most so many moves from the start, by (function, place, fact)."""
    costs = {}
    for (f, p, d, calls), c in plain_states(chart, [(0, 0, d, ()) for d in facts(start)], most).items():
        put_lower(costs, (f, p, d), c)
    return costs


def plain_within(chart, f, a, most):
    """The least costs of at most so many moves inside function f, all calls shut, by (place, fact)."""
    states = plain_states(chart, [(f, 0, a, ())], most)
    return {state[1:3]: c for state, c in states.items() if state[3] == ()}
