"""Rows of a paper unrolled to the ways that they tell."""

from callmatch.errors import NoPaper, TooLong
from callmatch.papers import claims, move_of


def unrolled(chart, start, rows, k, most=400):
    """(fact, moves) of the way that row k tells; or NoPaper where it tells none, TooLong where it has more moves."""
    if not 0 <= k < len(rows):
        raise NoPaper(k)
    ahead = rows[:k + 1]
    # The paper may be let by for another start than the one told, so all facts are let begin here.
    told = claims(chart, (1 << chart[0][1]) - 1, ahead)
    if told[k][0] != "at":
        raise NoPaper(k)
    parts = [parts_of(told, row) for row in ahead]
    if counted(parts, most) > most:
        raise TooLong(f"row {k} has more than {most} moves")
    return (first_fact(ahead, k), moves_of(parts, k))


def parts_of(told, row):
    """What a row's way is put together of, in order: whole numbers are rows, tuples are moves."""
    if row[0] == "begin" or row[0] == "start":
        return []
    if row[0] == "along":
        return [row[1], row[2]]
    if row[0] == "short":
        return [row[1], ("in", row[2], told[row[3]][2]), row[3], ("out", row[4])]
    return [row[1], move_of(row)]


def counted(parts, most):
    """How many moves the last row has; any number beyond most stands for all of them."""
    many = []
    for row_parts in parts:
        total = 0
        for part in row_parts:
            total += many[part] if isinstance(part, int) else 1
        # Kept low, since the moves may double from row to row.
        many.append(min(total, most + 1))
    return many[-1]


def first_fact(rows, k):
    """The fact with which the way of row k begins."""
    # Each row that claims an "at" names the one that it goes on from first.
    while rows[k][0] != "start":
        k = rows[k][1]
    return rows[k][1]


def moves_of(parts, k):
    """The moves of row k, in order."""
    moves = []
    # Kept by hand, not by recursion, since the rows may go by one another thousands deep.
    waiting = [k]
    while len(waiting) > 0:
        part = waiting.pop()
        if isinstance(part, int):
            waiting.extend(list(reversed(parts[part])))
        else:
            moves.append(part)
    return moves
