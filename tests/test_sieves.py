"""[8] to [11], and what [3] says of a sieve: sieves made of lists, their knots, their sets in order."""

import unittest

from frontways.errors import NoSet, TooMany
from frontways.making import sieve_of
from frontways.sieves import Sieve, has_set, sets_of
from sample_sieves import (
    HUGE, SAMPLES, all_sets_below, every_list_below, held_to_words, in_order, is_ahead, refused, remainders, told,
)


class Order(unittest.TestCase):
    EXAMPLE = [(), (2,), (1,), (1, 2), (0,), (0, 2)]

    def test_the_example(self):
        for sets in (self.EXAMPLE, self.EXAMPLE[::-1], sorted(self.EXAMPLE)):
            self.assertEqual(self.EXAMPLE, sets_of(sieve_of(3, sets)))
            self.assertEqual(self.EXAMPLE, sets_of(sieve_of(12, sets)))

    def test_all_sets_of_few_ties(self):
        self.assertEqual([()], sets_of(sieve_of(0, [()])))
        self.assertEqual([(), (0,)], sets_of(sieve_of(1, [(0,), ()])))
        self.assertEqual([(), (1,), (0,), (0, 1)], sets_of(sieve_of(2, all_sets_below(2))))
        self.assertEqual(
            [(), (2,), (1,), (1, 2), (0,), (0, 2), (0, 1), (0, 1, 2)], sets_of(sieve_of(3, all_sets_below(3)))
        )

    def test_ahead_as_the_document_says(self):
        for n, sets in SAMPLES:
            found = sets_of(sieve_of(n, sets))
            for k, one in enumerate(found):
                for other in found[k + 1:]:
                    self.assertTrue(is_ahead(one, other), (one, other))

    def test_each_once(self):
        for n, sets in SAMPLES:
            found = sets_of(sieve_of(n, sets * 3))
            self.assertEqual(in_order(sets), found)
            self.assertIs(list, type(found))
            self.assertTrue(all(type(some) is tuple for some in found))

    def test_every_list_below_three(self):
        for sets in every_list_below(3):
            self.assertEqual(in_order(sets), sets_of(sieve_of(3, sets)))


class Knots(unittest.TestCase):
    def test_no_sets(self):
        for n in range(13):
            self.assertEqual((n, [], 0), told(sieve_of(n, [])))
            self.assertEqual([], sets_of(sieve_of(n, [])))

    def test_the_empty_set_alone(self):
        for n in range(13):
            self.assertEqual((n, [], 1), told(sieve_of(n, [()])))
            self.assertEqual([()], sets_of(sieve_of(n, [()])))

    def test_some_by_hand(self):
        self.assertEqual((1, [(0, 0, 1)], 2), told(sieve_of(1, [(0,)])))
        self.assertEqual((1, [(0, 1, 1)], 2), told(sieve_of(1, [(), (0,)])))
        self.assertEqual((3, [(2, 0, 1), (1, 2, 1), (0, 3, 1)], 4), told(sieve_of(3, [(0,), (1,), (2,)])))
        self.assertEqual((3, [(2, 1, 1), (1, 2, 2), (0, 3, 2)], 4), told(sieve_of(3, Order.EXAMPLE)))
        self.assertEqual(
            (3, [(2, 0, 1), (2, 1, 1), (1, 0, 3), (1, 2, 3), (0, 5, 4)], 6),
            told(sieve_of(3, [(2,), (1,), (1, 2), (0, 1), (0, 1, 2)])),
        )
        self.assertEqual((12, [(11, 0, 1), (4, 2, 2)], 3), told(sieve_of(12, [(4, 11), (11,)])))
        self.assertEqual((4, [(3, 1, 1), (2, 2, 2), (1, 3, 3), (0, 4, 4)], 5), told(sieve_of(4, all_sets_below(4))))

    def test_the_top_has_the_greatest_number(self):
        # All others are beneath it, so none has its tie or a lesser one.
        for n, sets in SAMPLES:
            sieve = sieve_of(n, sets)
            if any(sets):
                self.assertEqual(len(sieve.knots()) + 1, sieve.top())

    def test_word_by_word(self):
        for n, sets in SAMPLES:
            held_to_words(self, n, sets, sieve_of(n, sets))

    def test_every_list_below_three_word_by_word(self):
        for n in range(4):
            for sets in every_list_below(n):
                held_to_words(self, n, sets, sieve_of(n, sets))

    def test_unlike_sets_have_unlike_sieves(self):
        for n in range(4):
            lists = every_list_below(n)
            seen = {repr(told(sieve_of(n, sets))) for sets in lists}
            self.assertEqual(len(lists), len(seen))

    def test_as_few_knots_as_there_are_remainders(self):
        for n, sets in SAMPLES + [(3, sets) for sets in every_list_below(3)]:
            self.assertEqual(len(remainders(sets)), len(sieve_of(n, sets).knots()), (n, sets))

    def test_another_order_and_several_times(self):
        for n, sets in SAMPLES + [(3, sets) for sets in every_list_below(3)]:
            expected = told(sieve_of(n, sets))
            for again in (sets[::-1], sorted(sets), sets[::2] + sets[1::2], sets + sets, sets[::-1] + sets[:3]):
                self.assertEqual(expected, told(sieve_of(n, again)))

    def test_one_tie_more(self):
        for n, sets in SAMPLES:
            if n < 12:
                first, more = sieve_of(n, sets), sieve_of(n + 1, sets)
                self.assertEqual((first.knots(), first.top()), (more.knots(), more.top()))
                self.assertEqual((n, n + 1), (first.many(), more.many()))


class Told(unittest.TestCase):
    def test_kinds(self):
        for n, sets in SAMPLES:
            sieve = sieve_of(n, sets)
            self.assertIs(Sieve, type(sieve))
            self.assertIs(int, type(sieve.many()))
            self.assertIs(int, type(sieve.top()))
            self.assertEqual(n, sieve.many())

    def test_all_sets_of_few_ties(self):
        for n in range(6):
            sets = all_sets_below(n)
            sieve = sieve_of(n, sets)
            self.assertEqual((n, n, n + 1), (sieve.many(), len(sieve.knots()), sieve.top()))
            self.assertEqual(2 ** n, len(sets_of(sieve)))

    def test_one_set(self):
        for n in (3, 12):
            for some in all_sets_below(3):
                sieve = sieve_of(n, [some])
                self.assertEqual([some], sets_of(sieve))
                self.assertEqual(len(some), len(sieve.knots()))


class Refusals(unittest.TestCase):
    def test_too_many(self):
        for n in (-1, 13, -2, 14, HUGE, -HUGE):
            for sets in ([], [()], [(0,)]):
                refused(self, TooMany, sieve_of, n, sets)

    def test_too_many_ahead_of_bad_sets(self):
        for n in (-1, 13, HUGE):
            for bad in ((1, 0), (0, 0), (-1,), (13,), (HUGE,), (14, 13)):
                refused(self, TooMany, sieve_of, n, [bad])
                refused(self, TooMany, sieve_of, n, [(), [0], bad])

    def test_no_ties_and_twelve(self):
        self.assertEqual([()], sets_of(sieve_of(0, [()])))
        self.assertEqual([(0, 11)], sets_of(sieve_of(12, [(0, 11)])))
        refused(self, NoSet, sieve_of, 0, [(0,)])
        refused(self, NoSet, sieve_of, 12, [(12,)])

    def test_no_sets_of_ties_below_four(self):
        falling = [(1, 0), (3, 2), (0, 2, 1), (1, 0, 3), (3, 2, 1, 0)]
        twice = [(0, 0), (3, 3), (0, 1, 1), (2, 2, 3), (0, 1, 2, 3, 3)]
        below = [(-1,), (-1, 0), (0, -1), (-4, -3), (-HUGE,), (-HUGE, 2)]
        beyond = [(4,), (0, 4), (3, 5), (4, 0), (0, 1, 2, 3, 4), (12,), (HUGE,), (2, HUGE)]
        for bad in falling + twice + below + beyond:
            refused(self, NoSet, sieve_of, 4, [bad])
            refused(self, NoSet, sieve_of, 4, [list(bad)])
            refused(self, NoSet, sieve_of, 4, ((), (0, 1), bad))
            refused(self, NoSet, sieve_of, 4, [bad, (0, 3), ()])
            refused(self, NoSet, sieve_of, 4, [(3,), bad, bad])


class HasSet(unittest.TestCase):
    STRANGE = [
        (1, 0), (0, 0), (0, 1, 1), (1, 1), (2, 1), (-1,), (-1, 0), (0, -1), (3, 2, 1, 0), (12,), (0, 12), (12, 0),
        (0, 1, 2, 12), (HUGE,), (-HUGE,), (0, HUGE), tuple(range(12))[::-1], (0,) * 13, tuple(range(13)),
    ]

    def test_every_list_below_three(self):
        for sets in every_list_below(3):
            sieve = sieve_of(3, sets)
            for some in all_sets_below(4):
                self.assertIs(some in sets, has_set(sieve, some), (sets, some))
                self.assertIs(some in sets, has_set(sieve, list(some)), (sets, some))

    def test_samples(self):
        for n, sets in SAMPLES:
            sieve = sieve_of(n, sets)
            for some in all_sets_below(n) if n < 12 else all_sets_below(12)[::7]:
                self.assertIs(some in sets, has_set(sieve, some), (n, sets, some))
            for some in sets:
                self.assertIs(True, has_set(sieve, some))
                self.assertIs(True, has_set(sieve, list(some)))

    def test_what_is_no_set_or_has_what_is_no_tie(self):
        for n, sets in SAMPLES:
            sieve = sieve_of(n, sets)
            for some in self.STRANGE:
                self.assertIs(False, has_set(sieve, some), (n, sets, some))
                self.assertIs(False, has_set(sieve, list(some)), (n, sets, some))

    def test_sets_handed_on_in_another_form(self):
        sieve = sieve_of(5, [(0, 2, 4), (1, 3)])
        for some in ((0, 4, 2), (2, 0, 4), (4, 2, 0), (3, 1), (0, 2, 4, 4), (0, 0, 2, 4), (1, 3, 1), (1, 3, 5)):
            self.assertIs(False, has_set(sieve, some))
        for some in ((0, 2), (0,), (2, 4), (1,), (3,), (), (1, 3, 4), (0, 1, 3)):
            self.assertIs(False, has_set(sieve, some))
        self.assertIs(True, has_set(sieve, (0, 2, 4)))
        self.assertIs(True, has_set(sieve, [1, 3]))


if __name__ == "__main__":
    unittest.main()
