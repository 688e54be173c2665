"""Masks and tables: points 4 and 5, and 2 over them."""

import itertools
import unittest

from callmatch.errors import NoTable
from callmatch.tables import either, facts_in, image, less, pairs_of, same, table_of, then, turned


def every_table(n, to):
    """All tables of n facts, to so many facts."""
    return itertools.product(range(1 << to), repeat=n)


class Whole(unittest.TestCase):
    def assert_whole(self, number):
        self.assertIs(type(number), int)

    def assert_table(self, found, wanted):
        self.assertIs(type(found), tuple)
        self.assertEqual(found, wanted)
        for mask in found:
            self.assert_whole(mask)


class Masks(Whole):
    def test_facts_of_each_mask(self):
        seen = 0
        for many in range(7):
            for facts in itertools.combinations(range(6), many):
                mask = sum(2 ** d for d in facts)
                self.assertEqual(facts_in(mask), list(facts))
                seen += 1
        self.assertEqual(seen, 64)

    def test_written_out(self):
        self.assertEqual(facts_in(0), [])
        self.assertEqual(facts_in(1), [0])
        self.assertEqual(facts_in(32), [5])
        self.assertEqual(facts_in(0b101101), [0, 2, 3, 5])
        self.assertEqual(facts_in(63), [0, 1, 2, 3, 4, 5])

    def test_somewhat_beyond_nothing_is_refused(self):
        self.assertEqual(facts_in(64), [6])

    def test_the_list_is_the_askers_own(self):
        told = facts_in(5)
        told.append(9)
        self.assertEqual(facts_in(5), [0, 2])


class Same(Whole):
    def test_one_to_six(self):
        wanted = ((1,), (1, 2), (1, 2, 4), (1, 2, 4, 8), (1, 2, 4, 8, 16), (1, 2, 4, 8, 16, 32))
        for n in range(1, 7):
            self.assert_table(same(n), wanted[n - 1])

    def test_brings_each_fact_to_itself(self):
        for n in range(1, 7):
            self.assertEqual(pairs_of(same(n)), [(d, d) for d in range(n)])


class TableOf(Whole):
    def test_no_pairs(self):
        for n in range(1, 7):
            self.assert_table(table_of(n, []), (0,) * n)

    def test_any_order(self):
        pairs = [(0, 5), (2, 1), (0, 0), (1, 3)]
        for order in itertools.permutations(pairs):
            self.assert_table(table_of(3, list(order)), (33, 8, 2))

    def test_a_pair_twice(self):
        self.assert_table(table_of(2, [(1, 4), (0, 0), (1, 4)]), (1, 16))

    def test_least_and_most_numbers(self):
        for n in range(1, 7):
            for d in (0, n - 1):
                for e in (0, 5):
                    self.assertEqual(pairs_of(table_of(n, [(d, e)])), [(d, e)])

    def test_wrong_d(self):
        for n in range(1, 7):
            for d in (-1, -n, -100, n, n + 1, 10 ** 20):
                with self.assertRaises(NoTable, msg=(n, d)):
                    table_of(n, [(d, 0)])

    def test_wrong_e(self):
        for n in range(1, 7):
            for e in (-1, -100, 6, 7, 10 ** 20):
                with self.assertRaises(NoTable, msg=(n, e)):
                    table_of(n, [(0, e)])

    def test_a_right_pair_ahead_of_a_wrong_one(self):
        for wrong in ((-1, 0), (2, 0), (0, -1), (0, 6)):
            with self.assertRaises(NoTable, msg=wrong):
                table_of(2, [(1, 5), wrong])
            with self.assertRaises(NoTable, msg=wrong):
                table_of(2, [wrong, (1, 5)])

    def test_pairs_stay_as_they_were(self):
        pairs = [(1, 4), (0, 0), (1, 4)]
        table_of(2, pairs)
        self.assertEqual(pairs, [(1, 4), (0, 0), (1, 4)])
        with self.assertRaises(NoTable):
            table_of(1, pairs)
        self.assertEqual(pairs, [(1, 4), (0, 0), (1, 4)])

    def test_what_is_done_to_the_pairs_later_changes_nothing(self):
        pairs = [(0, 1)]
        table = table_of(2, pairs)
        pairs.append((1, 1))
        self.assertEqual(table, (2, 0))


class PairsOf(Whole):
    def test_rising(self):
        self.assertEqual(pairs_of((33, 0, 6)), [(0, 0), (0, 5), (2, 1), (2, 2)])
        self.assertEqual(pairs_of((0,)), [])

    def test_pairs_are_tuples_of_whole_numbers(self):
        for pair in pairs_of((63, 1)):
            self.assertIs(type(pair), tuple)
            self.assertEqual(len(pair), 2)
            self.assert_whole(pair[0])
            self.assert_whole(pair[1])

    def test_back_to_the_table(self):
        for table in every_table(3, 3):
            pairs = pairs_of(table)
            self.assertEqual(pairs, sorted(set(pairs)))
            self.assertEqual(table_of(3, pairs), table)

    def test_the_list_is_the_askers_own(self):
        table = (1, 2)
        told = pairs_of(table)
        told.clear()
        self.assertEqual(pairs_of(table), [(0, 0), (1, 1)])


class Image(Whole):
    def test_written_out(self):
        table = (3, 0, 36)
        wanted = (0, 3, 0, 3, 36, 39, 36, 39)
        for mask in range(8):
            self.assertEqual(image(table, mask), wanted[mask])
            self.assert_whole(image(table, mask))

    def test_facts_beyond_the_table_become_none(self):
        self.assertEqual(image((5, 2), 0b111100), 0)
        self.assertEqual(image((5, 2), 0b000110), 2)
        self.assertEqual(image((5, 2), 63), 7)

    def test_of_same(self):
        for n in range(1, 7):
            for mask in range(64):
                self.assertEqual(image(same(n), mask), mask % (1 << n))


class Then(Whole):
    def test_unlike_numbers_of_facts(self):
        self.assert_table(then((6, 1), (8, 16, 32)), (48, 8))
        self.assert_table(then((1, 3, 2), (4, 1)), (4, 5, 1))

    def test_facts_beyond_the_other_become_none(self):
        self.assert_table(then((12, 5), (2, 3)), (0, 2))

    def test_by_pairs(self):
        for one in every_table(2, 3):
            for other in every_table(3, 2):
                wanted = [(d, e) for d, b in pairs_of(one) for c, e in pairs_of(other) if b == c]
                self.assert_table(then(one, other), table_of(2, wanted))


class EitherAndLess(Whole):
    def test_written_out(self):
        self.assert_table(either((5, 0, 32), (6, 0, 1)), (7, 0, 33))
        self.assert_table(less((5, 0, 32), (6, 63, 1)), (1, 0, 32))
        self.assert_table(less((63,), (63,)), (0,))

    def test_by_pairs(self):
        for one in every_table(2, 3):
            for other in every_table(2, 3):
                ones, others = set(pairs_of(one)), set(pairs_of(other))
                self.assert_table(either(one, other), table_of(2, list(ones | others)))
                self.assert_table(less(one, other), table_of(2, list(ones - others)))


class Turned(Whole):
    def test_written_out(self):
        self.assert_table(turned((6, 0, 1), 3), (4, 1, 1))
        self.assert_table(turned((3,), 2), (1, 1))
        self.assert_table(turned((1, 1, 1, 1, 1, 1), 1), (63,))
        self.assert_table(turned((0,), 6), (0, 0, 0, 0, 0, 0))

    def test_facts_from_n_on_are_left_out(self):
        self.assert_table(turned((63, 4), 2), (1, 1))
        self.assert_table(turned((56, 32, 1), 5), (4, 0, 0, 1, 1))
        self.assert_table(turned((4, 2), 1), (0,))

    def test_by_pairs(self):
        for n in range(1, 5):
            for table in every_table(2, 4):
                wanted = [(e, d) for d, e in pairs_of(table) if e < n]
                self.assert_table(turned(table, n), table_of(n, wanted))

    def test_twice(self):
        for table in every_table(2, 4):
            self.assertEqual(turned(turned(table, 4), 2), table)
        self.assertEqual(turned(turned((63, 4), 2), 2), (3, 0))


if __name__ == "__main__":
    unittest.main()
