import copy

from atmost.errors import BadCount, BadNumber, BadPlace, BadSayings
from atmost.sayings import kept, sum_of
from odd import HUGE, Case, Prickly, bad_counts, bad_places, bad_sayings, no_lists, no_numbers

# 0 -> 1 -> 2 -> 0, one more from 0 to 1, and one from 2 to itself.
SAYINGS = [(0, 1, 5), (1, 2, -3), (2, 0, 4), (0, 1, 7), (2, 2, 1)]


def bad_heights():
    """For three places."""
    wrong = no_lists() + [(0, 0, 0), "000", range(3), [], [0], [0, 0], [0, 0, 0, 0], [[0, 0, 0]]]
    for value in no_numbers():
        wrong += [[value, 0, 0], [0, value, 0], [0, 0, value]]
    return wrong


def bad_chains():
    """From place 0 to place 2 along SAYINGS."""
    wrong = no_lists() + [(0, 1), "01", range(2), {0: 0, 1: 1}]
    for value in no_numbers():
        wrong += [[value], [value, 1], [0, value], [0, 1, value]]
    return wrong


class Kept(Case):
    def test_heights_that_keep_all(self):
        self.assert_true(kept(3, SAYINGS, [0, 5, 2]))
        self.assert_true(kept(3, SAYINGS, [0, 0, -4]))
        self.assert_true(kept(3, SAYINGS, [100, 105, 102]))

    def test_just_as_much_is_kept_and_one_more_is_not(self):
        self.assert_true(kept(2, [(0, 1, 5)], [0, 5]))
        self.assert_false(kept(2, [(0, 1, 5)], [0, 6]))
        self.assert_true(kept(2, [(0, 1, -5)], [0, -5]))
        self.assert_false(kept(2, [(0, 1, -5)], [0, -4]))

    def test_one_broken_by_one_at_each_count(self):
        sayings = [(0, 1, 1), (1, 2, 1), (0, 2, 2)]
        self.assert_true(kept(3, sayings, [0, 1, 2]))
        self.assert_false(kept(3, [(0, 1, 0)] + sayings[1:], [0, 1, 2]))
        self.assert_false(kept(3, [sayings[0], (1, 2, 0), sayings[2]], [0, 1, 2]))
        self.assert_false(kept(3, sayings[:2] + [(0, 2, 1)], [0, 1, 2]))

    def test_the_upper_is_the_second(self):
        self.assert_true(kept(2, [(0, 1, 0)], [9, 2]))
        self.assert_false(kept(2, [(1, 0, 0)], [9, 2]))

    def test_no_sayings(self):
        self.assert_true(kept(1, [], [0]))
        self.assert_true(kept(3, [], [5, -HUGE, HUGE]))

    def test_a_place_to_itself(self):
        for height in (-3, 0, 8, HUGE):
            self.assert_false(kept(1, [(0, 0, -1)], [height]))
            self.assert_true(kept(1, [(0, 0, 0)], [height]))
            self.assert_true(kept(1, [(0, 0, 1)], [height]))

    def test_very_large_numbers(self):
        self.assert_true(kept(2, [(0, 1, HUGE)], [0, HUGE]))
        self.assert_false(kept(2, [(0, 1, HUGE)], [0, HUGE + 1]))
        self.assert_true(kept(2, [(0, 1, -HUGE)], [HUGE, 0]))
        self.assert_false(kept(2, [(0, 1, -HUGE)], [HUGE, 1]))
        self.assert_true(kept(2, [(0, 1, 2 * HUGE)], [-HUGE, HUGE]))
        self.assert_false(kept(2, [(0, 1, 2 * HUGE)], [-HUGE, HUGE + 1]))

    def test_many_sayings(self):
        many = [(place, place + 1, 1) for place in range(20000)]
        self.assert_true(kept(20001, many, list(range(20001))))
        self.assert_false(kept(20001, many, list(range(20000)) + [20001]))

    def test_nothing_is_changed(self):
        sayings = list(SAYINGS)
        heights = [0, 5, 2]
        kept(3, sayings, heights)
        kept(3, sayings, [9, 0, 50])
        self.assertEqual(sayings, SAYINGS)
        self.assertEqual(heights, [0, 5, 2])


class KeptRefuses(Case):
    def test_counts(self):
        for count in bad_counts():
            self.assert_refused(BadCount, kept, count, [], [0])
            self.assert_refused(BadCount, kept, count, [], [])

    def test_the_least_count(self):
        self.assert_true(kept(1, [], [0]))

    def test_sayings(self):
        for sayings in bad_sayings():
            self.assert_refused(BadSayings, kept, 3, sayings, [0, 0, 0])

    def test_places_of_sayings_go_by_the_count(self):
        self.assert_true(kept(3, [(2, 2, 0)], [0, 0, 0]))
        self.assert_refused(BadSayings, kept, 2, [(2, 2, 0)], [0, 0])
        self.assert_refused(BadSayings, kept, 1, [(0, 1, 0)], [0])

    def test_heights(self):
        for heights in bad_heights():
            self.assert_refused(BadNumber, kept, 3, SAYINGS, heights)
            self.assert_refused(BadNumber, kept, 3, [], heights)

    def test_heights_are_refused_also_where_a_saying_is_not_kept(self):
        self.assert_refused(BadNumber, kept, 3, [(0, 1, 0)], [0, 9, None])

    def test_a_huge_count(self):
        self.assert_refused(BadNumber, kept, HUGE, [(0, HUGE - 1, 0)], [0])

    def test_order_of_two(self):
        for count in bad_counts():
            self.assert_refused(BadCount, kept, count, Prickly(), [0])
            self.assert_refused(BadCount, kept, count, [(0, 1)], [0])
            self.assert_refused(BadCount, kept, count, [], Prickly())
        for sayings in bad_sayings():
            self.assert_refused(BadSayings, kept, 3, sayings, Prickly())
            self.assert_refused(BadSayings, kept, 3, sayings, [0])

    def test_nothing_is_changed(self):
        sayings = [(0, 1, 5), (0, 7, 5)]
        heights = [0, None]
        self.assert_refused(BadSayings, kept, 3, sayings, heights)
        self.assert_refused(BadNumber, kept, 8, sayings, heights)
        self.assertEqual(sayings, [(0, 1, 5), (0, 7, 5)])
        self.assertEqual(heights, [0, None])


class SumOf(Case):
    def test_ordinary_chains(self):
        self.assertEqual(sum_of(3, SAYINGS, [0], 0, 1), 5)
        self.assertEqual(sum_of(3, SAYINGS, [3], 0, 1), 7)
        self.assertEqual(sum_of(3, SAYINGS, [0, 1], 0, 2), 2)
        self.assertEqual(sum_of(3, SAYINGS, [3, 1, 4, 2], 0, 0), 9)
        self.assertEqual(sum_of(3, SAYINGS, [1, 2], 1, 0), 1)

    def test_the_chain_of_none(self):
        for place in range(3):
            self.assertEqual(sum_of(3, SAYINGS, [], place, place), 0)
            self.assertEqual(sum_of(3, [], [], place, place), 0)
            self.assert_refused(BadNumber, sum_of, 3, SAYINGS, [], place, (place + 1) % 3)

    def test_a_saying_used_twice(self):
        self.assertEqual(sum_of(3, SAYINGS, [0, 1, 2, 0], 0, 1), 11)
        self.assertEqual(sum_of(3, SAYINGS, [4, 4, 4], 2, 2), 3)

    def test_very_large_numbers(self):
        sayings = [(0, 1, HUGE), (1, 2, -2 * HUGE)]
        self.assertEqual(sum_of(3, sayings, [0, 1], 0, 2), -HUGE)

    def test_a_huge_count(self):
        self.assertEqual(sum_of(HUGE, [(0, HUGE - 1, 4)], [0], 0, HUGE - 1), 4)

    def test_a_long_chain(self):
        many = [(place, place + 1, place) for place in range(20000)]
        self.assertEqual(sum_of(20001, many, list(range(20000)), 0, 20000), 19999 * 10000)

    def test_a_whole_number_is_answered(self):
        self.assertIs(type(sum_of(3, SAYINGS, [], 1, 1)), int)

    def test_nothing_is_changed(self):
        sayings = list(SAYINGS)
        chain = [0, 1, 2]
        sum_of(3, sayings, chain, 0, 0)
        self.assert_refused(BadNumber, sum_of, 3, sayings, chain, 1, 0)
        self.assertEqual(sayings, SAYINGS)
        self.assertEqual(chain, [0, 1, 2])


class SumOfRefuses(Case):
    def test_counts(self):
        for count in bad_counts():
            self.assert_refused(BadCount, sum_of, count, [], [], 0, 0)

    def test_sayings(self):
        for sayings in bad_sayings():
            self.assert_refused(BadSayings, sum_of, 3, sayings, [], 0, 0)

    def test_places(self):
        for place in bad_places():
            self.assert_refused(BadPlace, sum_of, 3, SAYINGS, [], place, 0)
            self.assert_refused(BadPlace, sum_of, 3, SAYINGS, [], 0, place)
            self.assert_refused(BadPlace, sum_of, 3, SAYINGS, [], place, place)

    def test_the_last_place_is_one(self):
        self.assertEqual(sum_of(3, SAYINGS, [], 2, 2), 0)

    def test_chains_of_other_kinds(self):
        for chain in bad_chains():
            self.assert_refused(BadNumber, sum_of, 3, SAYINGS, chain, 0, 2)
        for chain in no_lists():
            self.assert_refused(BadNumber, sum_of, 3, SAYINGS, chain, 0, 0)

    def test_truths_in_a_chain_are_no_counts_of_sayings(self):
        self.assertEqual(sum_of(3, SAYINGS, [0, 1], 0, 2), 2)
        self.assert_refused(BadNumber, sum_of, 3, SAYINGS, [False, 1], 0, 2)
        self.assert_refused(BadNumber, sum_of, 3, SAYINGS, [0, True], 0, 2)

    def test_counts_below_nought_and_past_the_last(self):
        # Saying 4, the last one, leads from 2 to 2: counted from the end it would be -1.
        self.assertEqual(sum_of(3, SAYINGS, [4], 2, 2), 1)
        for at in (-1, -5, -6, 5, 6, HUGE, -HUGE):
            self.assert_refused(BadNumber, sum_of, 3, SAYINGS, [at], 2, 2)
            self.assert_refused(BadNumber, sum_of, 3, SAYINGS, [4, at], 2, 2)
        self.assert_refused(BadNumber, sum_of, 3, SAYINGS, [-5], 0, 1)
        self.assert_refused(BadNumber, sum_of, 3, [], [0], 0, 0)

    def test_a_wrong_beginning(self):
        self.assert_refused(BadNumber, sum_of, 3, SAYINGS, [1], 0, 2)
        self.assert_refused(BadNumber, sum_of, 3, SAYINGS, [0, 1], 1, 2)
        self.assert_refused(BadNumber, sum_of, 3, SAYINGS, [4], 0, 2)

    def test_a_wrong_end(self):
        self.assert_refused(BadNumber, sum_of, 3, SAYINGS, [0], 0, 2)
        self.assert_refused(BadNumber, sum_of, 3, SAYINGS, [0, 1], 0, 1)
        self.assert_refused(BadNumber, sum_of, 3, SAYINGS, [0, 1], 0, 0)

    def test_a_gap(self):
        self.assert_refused(BadNumber, sum_of, 3, SAYINGS, [0, 2], 0, 0)
        self.assert_refused(BadNumber, sum_of, 3, SAYINGS, [0, 3], 0, 1)
        self.assert_refused(BadNumber, sum_of, 3, SAYINGS, [0, 4, 1], 0, 2)

    def test_a_chain_is_not_walked_backward(self):
        self.assert_refused(BadNumber, sum_of, 3, SAYINGS, [0], 1, 0)

    def test_order_of_two(self):
        for count in bad_counts():
            self.assert_refused(BadCount, sum_of, count, Prickly(), [], 0, 0)
            self.assert_refused(BadCount, sum_of, count, [], Prickly(), 0, 0)
            self.assert_refused(BadCount, sum_of, count, [], [], Prickly(), 0)
            self.assert_refused(BadCount, sum_of, count, [], [], 0, Prickly())
        for sayings in bad_sayings():
            self.assert_refused(BadSayings, sum_of, 3, sayings, Prickly(), 0, 0)
            self.assert_refused(BadSayings, sum_of, 3, sayings, [], Prickly(), 0)
            self.assert_refused(BadSayings, sum_of, 3, sayings, [], 0, Prickly())
        for place in bad_places():
            self.assert_refused(BadPlace, sum_of, 3, SAYINGS, Prickly(), place, 0)
            self.assert_refused(BadPlace, sum_of, 3, SAYINGS, Prickly(), 0, place)
            self.assert_refused(BadPlace, sum_of, 3, SAYINGS, [-1], 0, place)

    def test_nothing_is_changed(self):
        sayings = list(SAYINGS)
        chain = [0, None, [1]]
        before = copy.deepcopy(chain)
        self.assert_refused(BadNumber, sum_of, 3, sayings, chain, 0, 0)
        self.assert_refused(BadPlace, sum_of, 3, sayings, chain, 0, 3)
        self.assertEqual(chain, before)
        self.assertEqual(sayings, SAYINGS)
