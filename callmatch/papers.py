"""Papers: rows that each claim something by rows ahead of them."""

from callmatch.charts import edge_taken, exit_of, start_facts
from callmatch.errors import NoPaper
from callmatch.tables import brings


def claims(chart, start, rows):
    """What the rows of a paper claim; or NoPaper, with the number of the first row that claims nothing."""
    told = []
    for row in rows:
        claim = claim_of(chart, start, told, row)
        if claim is None:
            raise NoPaper(len(told))
        told.append(claim)
    return told


def claim_of(chart, start, ahead, row):
    """What a row claims, ahead being the claims of all rows ahead of it; None where it claims nothing."""
    if row[0] == "begin":
        return begin_claim(chart, row)
    if row[0] == "start":
        return start_claim(chart, start, row)
    if row[0] == "short":
        return short_claim(chart, ahead, row)
    if row[0] == "in":
        return in_claim(chart, ahead, row)
    if row[0] == "along":
        return along_claim(ahead, row)
    return edge_claim(chart, ahead, row)


def claim_ahead(ahead, k, sort):
    """The claim of row k, where it is one of the rows ahead and its claim is of this sort; else None."""
    if 0 <= k < len(ahead) and ahead[k][0] == sort:
        return ahead[k]
    return None


def begin_claim(chart, row):
    f = row[1]
    d = row[2]
    if 0 <= f < len(chart) and 0 <= d < chart[f][1]:
        return ("within", f, d, 0, d, 0)
    return None


def start_claim(chart, start, row):
    d = row[1]
    return ("at", 0, 0, d, 0) if d in start_facts(chart, start) else None


def edge_claim(chart, ahead, row):
    """What a step or an over claims."""
    base = claim_ahead(ahead, row[1], "within")
    if base is None:
        return None
    f = base[1]
    edge = edge_taken(chart, (f, base[3], base[4]), move_of(row))
    if edge is None:
        return None
    return ("within", f, base[2], edge[2], row[3], base[5] + edge[3])


def short_claim(chart, ahead, row):
    base = claim_ahead(ahead, row[1], "within")
    called = claim_ahead(ahead, row[3], "within")
    if base is None or called is None:
        return None
    f = base[1]
    edge = edge_taken(chart, (f, base[3], base[4]), ("in", row[2], called[2]))
    if edge is None or edge[4] != called[1] or called[3] != exit_of(chart, called[1]):
        return None
    if not brings(edge[6], called[4], row[4]):
        return None
    return ("within", f, base[2], edge[2], row[4], base[5] + edge[3] + called[5])


def in_claim(chart, ahead, row):
    base = claim_ahead(ahead, row[1], "at")
    if base is None:
        return None
    edge = edge_taken(chart, (base[1], base[2], base[3]), move_of(row))
    return None if edge is None else ("at", edge[4], 0, row[3], base[4] + edge[3])


def along_claim(ahead, row):
    base = claim_ahead(ahead, row[1], "at")
    moved = claim_ahead(ahead, row[2], "within")
    if base is None or moved is None:
        return None
    f = base[1]
    if base[2] != 0 or moved[1] != f or moved[2] != base[3]:
        return None
    return ("at", f, moved[3], moved[4], base[4] + moved[5])


def move_of(row):
    """The move that a step, an over or an in makes behind those of the row that it goes by."""
    return (row[0], row[2], row[3])
