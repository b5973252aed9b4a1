import itertools

from atmost.ends import highest, lowest
from atmost.sayings import kept
from odd import HUGE, Case, Dice, held_sayings, held_told, least_sums_between

# Kept by [0, 5, 2, ..]; 0 -> 1 -> 2 sums to 2, 2 -> 0 is 4; nothing leads to or from place 3.
SAYINGS = [(0, 1, 5), (1, 2, -3), (2, 0, 4), (0, 1, 7)]
ENDS = (0, 1, -1, 12, -345, HUGE, -HUGE)


def known(sums):
    return [number for number in sums if number is not None]


class Highest(Case):
    def test_ordinary(self):
        self.assertEqual(highest(4, SAYINGS, 0), [0, 0, -3, 0])
        self.assertEqual(highest(4, SAYINGS, 10), [10, 10, 7, 10])
        self.assertEqual(highest(3, [(0, 1, -5), (1, 2, -5), (2, 0, 10)], 0), [0, -5, -10])
        self.assertEqual(highest(3, [(2, 1, -5), (1, 0, -5)], 3), [-7, -2, 3])

    def test_no_sayings(self):
        for top in ENDS:
            self.assertEqual(highest(1, [], top), [top])
            self.assertEqual(highest(3, [], top), [top, top, top])

    def test_a_place_to_itself_and_sums_of_nought(self):
        self.assertEqual(highest(2, [(0, 0, 0), (1, 1, 5)], -4), [-4, -4])
        self.assertEqual(highest(2, [(0, 1, -3), (1, 0, 3)], 1), [1, -2])

    def test_very_large_numbers(self):
        self.assertEqual(highest(2, [(0, 1, -HUGE)], HUGE), [HUGE, 0])
        self.assertEqual(highest(2, [(0, 1, HUGE)], -HUGE), [-HUGE, -HUGE])

    def test_many_places_and_sayings(self):
        size = 5000
        chain = [(place + 1, place, -1) for place in range(size - 1)]
        self.assertEqual(highest(size, chain, -1), list(range(-size, 0)))
        self.assertEqual(highest(size, chain[::-1], -1), list(range(-size, 0)))

    def test_a_new_list_of_whole_numbers(self):
        told = highest(4, SAYINGS, 0)
        self.assertIs(type(told), list)
        self.assertTrue(all(type(height) is int for height in told))
        told[0] = 99
        self.assertEqual(highest(4, SAYINGS, 0), [0, 0, -3, 0])

    def test_all_small_ones(self):
        for count, sayings, least in held_told():
            for top in ENDS[:5]:
                told = highest(count, sayings, top)
                self.assert_true(kept(count, sayings, told))
                # From a place no higher than the top no chain allows more, so no heights can be greater there.
                self.assertEqual(told, [top + min(known(sums)) for sums in zip(*least)])


class Lowest(Case):
    def test_ordinary(self):
        self.assertEqual(lowest(4, SAYINGS, 0), [0, 3, 0, 0])
        self.assertEqual(lowest(4, SAYINGS, -10), [-10, -7, -10, -10])
        self.assertEqual(lowest(3, [(0, 1, -5), (1, 2, -5), (2, 0, 10)], 0), [10, 5, 0])
        self.assertEqual(lowest(3, [(2, 1, -5), (1, 0, -5)], 3), [3, 8, 13])

    def test_no_sayings(self):
        for bottom in ENDS:
            self.assertEqual(lowest(1, [], bottom), [bottom])
            self.assertEqual(lowest(3, [], bottom), [bottom, bottom, bottom])

    def test_a_place_to_itself_and_sums_of_nought(self):
        self.assertEqual(lowest(2, [(0, 0, 0), (1, 1, 5)], -4), [-4, -4])
        self.assertEqual(lowest(2, [(0, 1, -3), (1, 0, 3)], 1), [4, 1])

    def test_very_large_numbers(self):
        self.assertEqual(lowest(2, [(0, 1, -HUGE)], -HUGE), [0, -HUGE])
        self.assertEqual(lowest(2, [(0, 1, HUGE)], HUGE), [HUGE, HUGE])

    def test_many_places_and_sayings(self):
        size = 5000
        chain = [(place + 1, place, -1) for place in range(size - 1)]
        self.assertEqual(lowest(size, chain, 0), list(range(size)))
        self.assertEqual(lowest(size, chain[::-1], 0), list(range(size)))

    def test_a_new_list_of_whole_numbers(self):
        told = lowest(4, SAYINGS, 0)
        self.assertIs(type(told), list)
        self.assertTrue(all(type(height) is int for height in told))
        told[0] = 99
        self.assertEqual(lowest(4, SAYINGS, 0), [0, 3, 0, 0])

    def test_all_small_ones(self):
        for count, sayings, least in held_told():
            for bottom in ENDS[:5]:
                told = lowest(count, sayings, bottom)
                self.assert_true(kept(count, sayings, told))
                self.assertEqual(told, [bottom - min(known(sums)) for sums in least])


class AmongAll(Case):
    """Against every heights within some reach that keep all."""

    def setUp(self):
        dice = Dice(11)
        self.told = [held_sayings(dice, 3, dice.throw(1, 6), 4) for at in range(60)]
        # Near enough to one another for the ends to lie within the reach.
        self.told = [[(lower, upper, number % 7 - 2) for lower, upper, number in told] for told in self.told]
        self.told = [told for told in self.told if least_sums_between(3, told) is not None]

    def all_kept(self, sayings, least, most):
        within = itertools.product(range(least, most + 1), repeat=3)
        return [list(heights) for heights in within if kept(3, sayings, list(heights))]

    def test_none_is_higher_under_the_top(self):
        for sayings in self.told:
            found = self.all_kept(sayings, -2, 4)
            self.assertIn(highest(3, sayings, 4), found)
            self.assertEqual(highest(3, sayings, 4), [max(heights[place] for heights in found) for place in range(3)])

    def test_none_is_lower_over_the_bottom(self):
        for sayings in self.told:
            found = self.all_kept(sayings, -2, 4)
            self.assertIn(lowest(3, sayings, -2), found)
            self.assertEqual(lowest(3, sayings, -2), [min(heights[place] for heights in found) for place in range(3)])

    def test_the_greater_and_the_lesser_of_two_keep_all(self):
        self.assertGreater(len(self.told), 25)
        for sayings in self.told:
            found = self.all_kept(sayings, -2, 4)
            found += [highest(3, sayings, end) for end in ENDS] + [lowest(3, sayings, end) for end in ENDS]
            for first, second in zip(found, found[7:]):
                self.assert_true(kept(3, sayings, [max(pair) for pair in zip(first, second)]))
                self.assert_true(kept(3, sayings, [min(pair) for pair in zip(first, second)]))
