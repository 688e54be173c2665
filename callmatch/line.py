"""Queues from which the least cost is taken first, and offers settled by one."""


class Queue:
    """Things with costs; of like costs the one put first is taken first."""

    def __init__(self):
        # Tuples (cost, number of the put, thing); the one at k is never ahead of the one at (k - 1) // 2.
        self.heap = []
        self.puts = 0

    def put(self, cost, thing):
        self.heap.append((cost, self.puts, thing))
        self.puts += 1
        rise(self.heap)

    def take(self):
        """(cost, thing), or None where nothing is left."""
        if len(self.heap) == 0:
            return None
        first = self.heap[0]
        last = self.heap.pop()
        if len(self.heap) > 0:
            self.heap[0] = last
            sink(self.heap)
        return (first[0], first[2])

    def many(self):
        return len(self.heap)


class Offers:
    """Keys offered at costs, each time with a row; each key is told once, at the least cost, with the row for it."""

    def __init__(self):
        self.queue = Queue()
        self.least = {}

    def offer(self, cost, key, row):
        if key not in self.least or cost < self.least[key]:
            self.least[key] = cost
            self.queue.put(cost, (key, row))

    def settled(self):
        """(cost, key, row) of the least cost not told yet, or None; what is offered from then on costs no less."""
        taken = self.queue.take()
        # A key that was offered at less later on still stands here at its earlier costs.
        while taken is not None and taken[0] != self.least[taken[1][0]]:
            taken = self.queue.take()
        return None if taken is None else (taken[0], taken[1][0], taken[1][1])


def is_ahead(one, other):
    # The things are left out, since they may be such as can't be compared.
    return one[:2] < other[:2]


def rise(heap):
    """Bring the last one up to where it belongs."""
    k = len(heap) - 1
    mover = heap[k]
    while k > 0 and is_ahead(mover, heap[(k - 1) // 2]):
        heap[k] = heap[(k - 1) // 2]
        k = (k - 1) // 2
    heap[k] = mover


def sink(heap):
    """Bring the first one down to where it belongs."""
    k = 0
    mover = heap[0]
    below = lesser_below(heap, 0)
    while below < len(heap) and is_ahead(heap[below], mover):
        heap[k] = heap[below]
        k = below
        below = lesser_below(heap, k)
    heap[k] = mover


def lesser_below(heap, k):
    """Which of the two below k is ahead of the other; beyond the end where there is none."""
    below = 2 * k + 1
    if below + 1 < len(heap) and is_ahead(heap[below + 1], heap[below]):
        return below + 1
    return below
