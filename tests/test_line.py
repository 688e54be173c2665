"""Queues: point 15."""

import random
import unittest

from callmatch.line import Offers, Queue


class Unlike:
    """A thing that refuses to be compared."""

    def refuse(self, other):
        raise AssertionError("compared")

    __eq__ = __ne__ = __lt__ = __le__ = __gt__ = __ge__ = refuse
    __hash__ = None

    def __bool__(self):
        raise AssertionError("asked for its truth")


class QueueCase(unittest.TestCase):
    def assert_taken(self, queue, wanted):
        """All that is left, in this order, and then nothing."""
        for many in range(len(wanted), 0, -1):
            self.assertEqual(queue.many(), many)
            told = queue.take()
            self.assertIs(type(told), tuple)
            self.assertEqual(told, wanted[len(wanted) - many])
        self.assertEqual(queue.many(), 0)
        self.assertIsNone(queue.take())

    def filled(self, pairs):
        queue = Queue()
        for cost, thing in pairs:
            queue.put(cost, thing)
        return queue


class Queues(QueueCase):
    def test_a_new_one(self):
        queue = Queue()
        self.assertEqual(queue.many(), 0)
        for k in range(3):
            self.assertIsNone(queue.take())
            self.assertEqual(queue.many(), 0)

    def test_one_thing(self):
        queue = Queue()
        self.assertIsNone(queue.put(0, "a"))
        self.assertEqual(queue.many(), 1)
        self.assertEqual(queue.take(), (0, "a"))
        self.assertEqual(queue.many(), 0)
        self.assertIsNone(queue.take())

    def test_used_again_behind_the_last(self):
        queue = self.filled([(3, "a")])
        self.assert_taken(queue, [(3, "a")])
        queue.put(9, "b")
        queue.put(1, "c")
        self.assert_taken(queue, [(1, "c"), (9, "b")])

    def test_greater_costs_ahead_of_lesser_ones(self):
        for many in range(1, 40):
            down = [(cost, str(cost)) for cost in range(many, 0, -1)]
            self.assert_taken(self.filled(down), down[::-1])
            self.assert_taken(self.filled(down[::-1]), down[::-1])

    def test_like_costs(self):
        for many in (2, 3, 7, 8, 9, 500):
            pairs = [(4, k) for k in range(many)]
            self.assert_taken(self.filled(pairs), pairs)
            pairs = [(4, many - k) for k in range(many)]
            self.assert_taken(self.filled(pairs), pairs)

    def test_like_costs_among_others(self):
        pairs = [(2, "a"), (1, "b"), (2, "c"), (0, "d"), (1, "e"), (2, "f"), (0, "g")]
        wanted = [(0, "d"), (0, "g"), (1, "b"), (1, "e"), (2, "a"), (2, "c"), (2, "f")]
        self.assert_taken(self.filled(pairs), wanted)

    def test_like_costs_put_behind_a_take(self):
        queue = self.filled([(1, "a"), (1, "b"), (0, "c")])
        self.assertEqual(queue.take(), (0, "c"))
        queue.put(1, "d")
        self.assertEqual(queue.take(), (1, "a"))
        queue.put(1, "e")
        self.assert_taken(queue, [(1, "b"), (1, "d"), (1, "e")])

    def test_many_drawn_ones(self):
        draw = random.Random(5)
        for many in range(1, 60):
            for costs in (2, 5, 1000):
                pairs = [(draw.randrange(costs), k) for k in range(many)]
                # Python's own sorting keeps like ones in their order.
                self.assert_taken(self.filled(pairs), sorted(pairs, key=lambda pair: pair[0]))

    def test_put_and_taken_in_turn(self):
        draw = random.Random(6)
        for costs in (1, 3, 50, 10 ** 24):
            queue, left = Queue(), []
            for k in range(1500):
                if draw.randrange(5) < 3 - k // 1000:
                    cost = draw.randrange(costs)
                    queue.put(cost, k)
                    left.append((cost, k))
                else:
                    wanted = min(left, key=lambda pair: pair[0]) if left else None
                    self.assertEqual(queue.take(), wanted)
                    if left:
                        left.remove(wanted)
                self.assertEqual(queue.many(), len(left))

    def test_great_costs(self):
        costs = [10 ** 24, 0, 10 ** 24 - 1, 2 ** 64, 2 ** 63, 10 ** 18, 2 ** 53 + 1, 2 ** 53, 1]
        pairs = [(cost, str(cost)) for cost in costs]
        self.assert_taken(self.filled(pairs), sorted(pairs, key=lambda pair: pair[0]))

    def test_none_a_text_and_a_tuple(self):
        queue = self.filled([(1, None), (1, "text"), (1, (2, "b")), (0, None), (1, 0), (1, "")])
        self.assert_taken(queue, [(0, None), (1, None), (1, "text"), (1, (2, "b")), (1, 0), (1, "")])

    def test_things_that_cannot_be_compared(self):
        for many in (2, 3, 10, 50):
            things = [Unlike() for k in range(many)]
            queue = self.filled([(7, thing) for thing in things])
            for thing in things:
                told = queue.take()
                self.assertEqual(told[0], 7)
                self.assertIs(told[1], thing)
            self.assertIsNone(queue.take())

    def test_the_very_thing_is_told(self):
        things = [[1], {"a": 1}, [1], (1, [2]), None, {}]
        queue = self.filled([(len(things) - k, thing) for k, thing in enumerate(things)])
        for thing in reversed(things):
            self.assertIs(queue.take()[1], thing)

    def test_one_thing_put_twice(self):
        thing = [1]
        queue = self.filled([(2, thing), (1, thing), (2, thing)])
        self.assert_taken(queue, [(1, thing), (2, thing), (2, thing)])

    def test_two_beside_each_other(self):
        one, other = Queue(), Queue()
        one.put(2, "a")
        other.put(1, "b")
        other.put(1, "c")
        one.put(1, "d")
        self.assertEqual((one.many(), other.many()), (2, 2))
        self.assertEqual(one.take(), (1, "d"))
        self.assertEqual((one.many(), other.many()), (1, 2))
        self.assert_taken(other, [(1, "b"), (1, "c")])
        self.assert_taken(one, [(2, "a")])


class OffersOfKeys(unittest.TestCase):
    def test_each_key_once_at_its_least(self):
        offers = Offers()
        for cost, key, row in ((5, "a", 1), (3, "b", 2), (2, "a", 3), (2, "a", 4), (4, "a", 5), (9, "c", 6)):
            offers.offer(cost, key, row)
        self.assertEqual(offers.settled(), (2, "a", 3))
        offers.offer(2, "a", 7)
        offers.offer(6, "a", 8)
        offers.offer(4, "c", 9)
        self.assertEqual(offers.settled(), (3, "b", 2))
        self.assertEqual(offers.settled(), (4, "c", 9))
        self.assertIsNone(offers.settled())
        self.assertIsNone(offers.settled())


if __name__ == "__main__":
    unittest.main()
