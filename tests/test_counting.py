"""[19] to [21]: how many sets, the k-th one and its number, sizes and shares."""

import unittest

from frontways.counting import count_of, knot_counts, nth_set, number_of, size_counts, tie_shares
from frontways.errors import NoNumber
from frontways.growing import grown
from frontways.making import least_sieve, sieve_of
from frontways.sieves import sets_of
from frontways.webs import Web
from sample_rules import RING_WEBS, SMALL_WEBS, TWELVES, rules_for
from sample_sieves import HUGE, SAMPLES, all_sets_below, every_list_below, in_order, refused, sets_by_words

# Each tie may be in or not: one knot a tie, both ways leading on to the next.
ALL_OF_TWELVE = [(11, 1, 1)] + [(10 - k, k + 2, k + 2) for k in range(11)]


def sieves():
    """Sieves of lists, of rows and grown; few and many sets, none, () alone, all."""
    for n, sets in SAMPLES:
        yield sieve_of(n, sets)
    for n in range(13):
        yield sieve_of(n, [])
        yield sieve_of(n, [()])
    for n in range(3):
        for sets in every_list_below(n):
            yield sieve_of(n, sets)
    yield least_sieve(12, ALL_OF_TWELVE, 13)
    for points, ties in SMALL_WEBS[::7] + RING_WEBS + TWELVES:
        for name, make in rules_for(points):
            yield grown(Web(points, ties), make())


def listed(sieve):
    """The sets of the sieve in order, found by the test's own reading of its knots."""
    return in_order(sets_by_words(sieve.knots())[sieve.top()])


class HowMany(unittest.TestCase):
    def test_by_hand(self):
        sieve = sieve_of(3, [(0, 1), (0, 2), (2,)])
        self.assertEqual(3, count_of(sieve))
        self.assertEqual([(2, 0, 1), (1, 2, 1), (0, 2, 3)], sieve.knots())
        self.assertEqual([0, 1, 1, 2, 3], knot_counts(sieve))

    def test_no_sets_and_the_one_without_ties(self):
        for n in range(13):
            self.assertEqual(0, count_of(sieve_of(n, [])))
            self.assertEqual([0, 1], knot_counts(sieve_of(n, [])))
            self.assertEqual(1, count_of(sieve_of(n, [()])))
            self.assertEqual([0, 1], knot_counts(sieve_of(n, [()])))

    def test_all_sets_of_twelve_ties(self):
        sieve = least_sieve(12, ALL_OF_TWELVE, 13)
        self.assertEqual(4096, count_of(sieve))
        self.assertEqual([0] + [1 << k for k in range(13)], knot_counts(sieve))

    def test_against_the_sets(self):
        for sieve in sieves():
            self.assertEqual(len(sets_of(sieve)), count_of(sieve))
            counts = knot_counts(sieve)
            self.assertIs(list, type(counts))
            self.assertEqual([len(sets) for sets in sets_by_words(sieve.knots())], counts)
            self.assertEqual([int], list({type(count) for count in counts + [count_of(sieve)]}))


class Numbered(unittest.TestCase):
    def test_by_hand(self):
        # The document's own row of sets.
        row = [(), (2,), (1,), (1, 2), (0,), (0, 2)]
        sieve = sieve_of(3, row)
        self.assertEqual(row, [nth_set(sieve, k) for k in range(6)])
        self.assertEqual(list(range(6)), [number_of(sieve, some) for some in row])
        for some in ((0, 1), (0, 1, 2)):
            self.assertIsNone(number_of(sieve, some))

    def test_every_number(self):
        for sieve in sieves():
            sets = sets_of(sieve)
            self.assertEqual(listed(sieve), sets)
            step = 1 + len(sets) // 150
            for k, some in list(enumerate(sets))[::step] + list(enumerate(sets))[-2:]:
                told_set = nth_set(sieve, k)
                self.assertEqual(some, told_set)
                self.assertIs(tuple, type(told_set))
                self.assertEqual(k, number_of(sieve, some))
                self.assertEqual(k, number_of(sieve, list(some)))

    def test_every_number_of_all_sets(self):
        sieve = least_sieve(12, ALL_OF_TWELVE, 13)
        self.assertEqual(in_order(all_sets_below(12)), [nth_set(sieve, k) for k in range(4096)])
        for k, some in enumerate(sets_of(sieve)):
            self.assertEqual(k, number_of(sieve, some))

    def test_none_for_the_other_sets(self):
        for sieve in sieves():
            sets = set(sets_of(sieve))
            others = [some for some in all_sets_below(min(sieve.many() + 1, 12)) if some not in sets]
            for some in others[::1 + len(others) // 40]:
                self.assertIsNone(number_of(sieve, some))
                self.assertIsNone(number_of(sieve, list(some)))

    def test_none_for_what_is_no_set(self):
        for sieve in (sieve_of(3, all_sets_below(3)), sieve_of(3, [(0, 1), (1, 2)]), sieve_of(0, [()]), sieve_of(0, []),
                      sieve_of(2, [(0, 1)]), least_sieve(12, ALL_OF_TWELVE, 13)):
            for some in ((1, 0), (2, 1), (0, 2, 1), (0, 0), (1, 1), (0, 1, 1), (0, 0, 1), (-1,), (-1, 0), (0, -1), (12,),
                         (0, 1, 12), (13,), (0, 99), (HUGE,), (0, HUGE), (-HUGE,), (-HUGE, 0, 1), (0, 1) * 20,
                         tuple(range(13)), (0,) * 13):
                self.assertIsNone(number_of(sieve, some), some)
                self.assertIsNone(number_of(sieve, list(some)), some)
        for n in range(13):
            self.assertIsNone(number_of(sieve_of(n, [(), tuple(range(n))]), (n,)))

    def test_no_such_number(self):
        for sieve in (sieve_of(3, [(0, 1), (0, 2)]), sieve_of(0, [()]), sieve_of(12, [()]), sieve_of(1, [(), (0,)]),
                      sieve_of(4, all_sets_below(4)), least_sieve(12, ALL_OF_TWELVE, 13)):
            many = len(sets_of(sieve))
            for k in (-1, -2, -many, -many - 1, many, many + 1, 2 * many, 10 ** 9, HUGE, -HUGE):
                refused(self, NoNumber, nth_set, sieve, k)

    def test_no_number_where_there_are_no_sets(self):
        for n in range(13):
            for k in (-HUGE, -1, 0, 1, 2, n, HUGE):
                refused(self, NoNumber, nth_set, sieve_of(n, []), k)


class SizesAndShares(unittest.TestCase):
    def test_by_hand(self):
        sieve = sieve_of(4, [(), (0, 1), (0, 2), (2,), (0, 1, 2)])
        self.assertEqual([1, 1, 2, 1, 0], size_counts(sieve))
        self.assertEqual([3, 2, 3, 0], tie_shares(sieve))

    def test_of_no_ties(self):
        self.assertEqual([0], size_counts(sieve_of(0, [])))
        self.assertEqual([], tie_shares(sieve_of(0, [])))
        self.assertEqual([1], size_counts(sieve_of(0, [()])))
        self.assertEqual([], tie_shares(sieve_of(0, [()])))

    def test_no_sets_and_the_one_without_ties(self):
        for n in range(13):
            self.assertEqual([0] * (n + 1), size_counts(sieve_of(n, [])))
            self.assertEqual([0] * n, tie_shares(sieve_of(n, [])))
            self.assertEqual([1] + [0] * n, size_counts(sieve_of(n, [()])))
            self.assertEqual([0] * n, tie_shares(sieve_of(n, [()])))

    def test_the_one_of_all_ties(self):
        for n in range(1, 13):
            self.assertEqual([0] * n + [1], size_counts(sieve_of(n, [tuple(range(n))])))
            self.assertEqual([1] * n, tie_shares(sieve_of(n, [tuple(range(n))])))

    def test_all_sets_of_twelve_ties(self):
        sieve = least_sieve(12, ALL_OF_TWELVE, 13)
        self.assertEqual([1, 12, 66, 220, 495, 792, 924, 792, 495, 220, 66, 12, 1], size_counts(sieve))
        self.assertEqual([2048] * 12, tie_shares(sieve))

    def test_against_the_sets(self):
        for sieve in sieves():
            n = sieve.many()
            sets = listed(sieve)
            sizes = size_counts(sieve)
            shares = tie_shares(sieve)
            self.assertEqual([len([some for some in sets if len(some) == size]) for size in range(n + 1)], sizes)
            self.assertEqual([len([some for some in sets if tie in some]) for tie in range(n)], shares)
            self.assertEqual([list, list], [type(sizes), type(shares)])
            self.assertEqual(count_of(sieve), sum(sizes))
            self.assertEqual(sum(size * many for size, many in enumerate(sizes)), sum(shares))


class Kept(unittest.TestCase):
    """[2] for counting."""

    ASKS = (knot_counts, size_counts, tie_shares)

    def told_of(self, sieve):
        many = count_of(sieve)
        numbers = [number_of(sieve, some) for some in all_sets_below(min(sieve.many(), 6))]
        nths = [nth_set(sieve, k) for k in range(0, many, 1 + many // 20)]
        shape = (sieve.many(), sieve.knots(), sieve.top(), sets_of(sieve))
        return repr([shape, many, numbers, nths] + [ask(sieve) for ask in self.ASKS])

    def test_each_list_is_the_askers_own(self):
        for n, sets in SAMPLES + [(3, []), (3, [()]), (0, [()])]:
            sieve = sieve_of(n, sets)
            before = self.told_of(sieve)
            for ask in self.ASKS:
                first = ask(sieve)
                kept = list(first)
                self.assertIsNot(first, ask(sieve))
                first[:] = [99] + first
                self.assertEqual(kept, ask(sieve))
                self.assertEqual(before, self.told_of(sieve))

    def test_what_is_handed_in_stays(self):
        sieve = sieve_of(4, [(0, 2), (1, 3), (2,)])
        for some in ([0, 2], [2, 0], [0, 0], [], [9, -1], [2]):
            handed = list(some)
            number_of(sieve, handed)
            self.assertEqual(some, handed)

    def test_the_same_after_others_were_asked(self):
        some_sieves = [sieve_of(n, sets) for n, sets in SAMPLES]
        before = [self.told_of(sieve) for sieve in some_sieves]
        for sieve in some_sieves[::-1]:
            refused(self, NoNumber, nth_set, sieve, count_of(sieve))
            self.told_of(sieve)
        self.assertEqual(before, [self.told_of(sieve) for sieve in some_sieves])
        self.assertEqual(before, [self.told_of(sieve_of(n, sets)) for n, sets in SAMPLES])


if __name__ == "__main__":
    unittest.main()
