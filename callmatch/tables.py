"""Masks of facts, and tables that tell what each fact becomes."""

from callmatch.errors import NoTable

MOST_FACTS = 6


def facts_in(mask):
    """The facts of a mask, rising."""
    return [d for d in range(mask.bit_length()) if mask >> d & 1]


def same(n):
    """The table of n facts that brings each one to itself."""
    return tuple([1 << d for d in range(n)])


def brings(table, d, e):
    """Whether a table brings its fact d to e, which may be any whole number."""
    return e in facts_in(table[d])


def table_of(n, pairs):
    """The table of n facts that brings d to e for each pair (d, e); or NoTable where one of them is no fact."""
    for d, e in pairs:
        if not (0 <= d < n and 0 <= e < MOST_FACTS):
            raise NoTable(f"no table of {n} facts: pair {d}, {e}")
    return gathered(n, pairs)


def gathered(n, pairs):
    """The table of n facts that brings d to e for each pair (d, e), none of which is looked at."""
    masks = [0] * n
    for d, e in pairs:
        masks[d] |= 1 << e
    return tuple(masks)


def pairs_of(table):
    """The pairs (d, e) for which a table brings d to e, rising."""
    pairs = []
    for d, mask in enumerate(table):
        for e in facts_in(mask):
            pairs.append((d, e))
    return pairs


def image(table, mask):
    """The mask of all that the facts of a mask become."""
    brought = 0
    # Walked by the table, not by the mask, so that facts beyond the table become none.
    for d, becomes in enumerate(table):
        if mask >> d & 1:
            brought |= becomes
    return brought


def then(one, other):
    """One table and then the other one."""
    return tuple([image(other, mask) for mask in one])


def either(one, other):
    """What one table or the other brings, both of as many facts."""
    return tuple([mask | more for mask, more in zip(one, other)])


def less(one, other):
    """What one table brings and the other doesn't, both of as many facts."""
    return tuple([mask & ~gone for mask, gone in zip(one, other)])


def turned(table, n):
    """The table of n facts that brings e to d where the table brings d to e."""
    return gathered(n, [(e, d) for d, e in pairs_of(table) if e < n])
