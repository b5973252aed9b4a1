import itertools

from atmost.answers import Fixed, Follows, Free, Heights, Loose, Needed, Needless, Ring
from atmost.sayings import kept, sum_of
from atmost.telling import fixed, follows, heights, needless
from odd import HUGE, Case, Dice, all_told, held_sayings, held_told, least_sums_between

# Kept by [0, 5, 2, ..]; 0 -> 1 -> 2 sums to 2, 2 -> 0 is 4; nothing leads to or from place 3.
SAYINGS = [(0, 1, 5), (1, 2, -3), (2, 0, 4), (0, 1, 7)]


class TellsHeights(Case):
    def assert_heights(self, count, sayings):
        answer = heights(count, sayings)
        self.assert_shown(Heights, answer, count, sayings)
        self.assert_true(kept(count, sayings, answer.heights))

    def assert_ring(self, count, sayings):
        answer = heights(count, sayings)
        self.assert_shown(Ring, answer, count, sayings)
        self.assertGreater(len(answer.chain), 0)
        place = sayings[answer.chain[0]][0]
        self.assertLess(sum_of(count, sayings, answer.chain, place, place), 0)
        return answer.chain

    def test_sayings_that_heights_keep(self):
        self.assert_heights(4, SAYINGS)
        self.assert_heights(3, [(0, 1, -5), (1, 2, -5), (2, 0, 10)])
        self.assert_heights(3, [(2, 1, -5), (1, 0, -5)])

    def test_sayings_that_none_keep(self):
        self.assertEqual(sorted(self.assert_ring(2, [(0, 1, 2), (1, 0, -3)])), [0, 1])
        self.assertEqual(sorted(self.assert_ring(4, SAYINGS + [(2, 0, -3)])), [0, 1, 4])

    def test_no_sayings(self):
        self.assert_heights(1, [])
        self.assert_heights(5, [])

    def test_one_place(self):
        self.assert_heights(1, [(0, 0, 0), (0, 0, 3), (0, 0, HUGE)])
        self.assertEqual(set(self.assert_ring(1, [(0, 0, 0), (0, 0, -1), (0, 0, 5)])), {1})

    def test_a_place_to_itself(self):
        for number in (0, 1, 7, HUGE):
            self.assert_heights(3, [(0, 1, -2), (1, 1, number)])
        for number in (-1, -7, -HUGE):
            self.assertEqual(set(self.assert_ring(3, [(0, 1, -2), (1, 1, number), (1, 2, 0)])), {1})

    def test_places_that_no_saying_speaks_of(self):
        self.assert_heights(7, [(5, 1, -4), (1, 5, 4)])
        self.assertEqual(sorted(self.assert_ring(7, [(5, 1, -4), (1, 5, 3)])), [0, 1])

    def test_several_between_the_same_two_places(self):
        several = [(0, 1, 9), (1, 0, 5), (0, 1, -2), (1, 0, 3), (0, 1, 4), (1, 0, 2)]
        self.assert_heights(2, several)
        self.assertEqual(sorted(self.assert_ring(2, several + [(1, 0, 1)])), [2, 6])

    def test_round_a_ring_just_nought_and_one_below(self):
        for size in range(1, 8):
            for turn in range(size):
                numbers = [place * place - 9 for place in range(size)]
                numbers[turn] -= sum(numbers)
                ring = [(place, (place + 1) % size, numbers[place]) for place in range(size)]
                self.assert_heights(size, ring)
                ring[turn] = (ring[turn][0], ring[turn][1], ring[turn][2] - 1)
                self.assertEqual(sorted(self.assert_ring(size, ring)), list(range(size)))

    def test_very_large_numbers(self):
        large = [(0, 1, HUGE), (1, 2, -3 * HUGE), (2, 0, 2 * HUGE)]
        self.assert_heights(3, large)
        self.assert_ring(3, large[:2] + [(2, 0, 2 * HUGE - 1)])
        self.assert_ring(3, large + [(2, 2, -HUGE)])

    def test_a_ring_at_a_huge_count(self):
        self.assert_ring(HUGE, [(0, HUGE - 1, 4), (HUGE - 1, 0, -5)])

    def test_a_ring_far_from_where_the_numbers_fall_first(self):
        tail = [(place, place + 1, -100) for place in range(30)]
        self.assert_ring(40, tail + [(39, 38, 0), (38, 39, -1)])
        self.assert_ring(40, [(38, 39, -1), (39, 38, 0)] + tail + [(39, 0, 5), (30, 38, 9)])

    def test_many_places_and_sayings(self):
        many = held_sayings(Dice(3), 1500, 6000, 12)
        self.assert_heights(1500, many)
        self.assert_ring(1500, many + [(7, 8, -50), (8, 7, 49)])

    def test_long_chains_and_rings_in_any_order(self):
        size = 5000
        chain = [(place + 1, place, -1) for place in range(size - 1)]
        for turned in (chain, chain[::-1], chain[1::2] + chain[::-2]):
            self.assert_heights(size, turned)
            self.assert_heights(size, [(0, size - 1, size - 1)] + turned)
            self.assert_ring(size, [(0, size - 1, size - 2)] + turned)

    def test_all_small_ones(self):
        rings = 0
        for count, sayings in all_told():
            if least_sums_between(count, sayings) is None:
                self.assert_ring(count, sayings)
                rings += 1
            else:
                self.assert_heights(count, sayings)
        self.assertGreater(rings, 80)
        self.assertGreater(len(all_told()) - rings, 300)


class TellsFollows(Case):
    def assert_follows(self, count, sayings, one, other, least):
        answer = follows(count, sayings, one, other)
        self.assert_shown(Follows, answer, count, sayings, one, other)
        self.assertEqual(sum_of(count, sayings, answer.chain, one, other), least)
        self.assert_true(kept(count, sayings, answer.heights))
        self.assertEqual(answer.heights[other] - answer.heights[one], least)
        return answer.chain

    def assert_free(self, count, sayings, one, other):
        answer = follows(count, sayings, one, other)
        self.assert_shown(Free, answer, count, sayings, one, other)
        return answer.places

    def test_the_one_and_the_other_apart(self):
        self.assertEqual(self.assert_follows(4, SAYINGS, 0, 1, 5), [0])
        self.assertEqual(self.assert_follows(4, SAYINGS, 0, 2, 2), [0, 1])
        self.assertEqual(self.assert_follows(4, SAYINGS, 2, 1, 9), [2, 0])
        self.assertEqual(self.assert_follows(4, SAYINGS, 1, 0, 1), [1, 2])

    def test_the_same_place_twice(self):
        for place in range(4):
            self.assertEqual(self.assert_follows(4, SAYINGS, place, place, 0), [])
        self.assertEqual(self.assert_follows(1, [], 0, 0, 0), [])
        self.assert_follows(2, [(0, 0, 0), (0, 1, 3), (1, 0, -3)], 0, 0, 0)

    def test_a_place_that_cannot_be_reached(self):
        self.assert_free(4, SAYINGS, 3, 0)
        self.assert_free(4, SAYINGS, 0, 3)
        self.assert_free(2, [], 0, 1)
        self.assert_free(2, [], 1, 0)
        self.assert_free(3, [(1, 0, HUGE), (2, 2, 0)], 0, 1)

    def test_no_place_that_leads_there_is_left_out(self):
        sayings = [(4, 1, 2), (2, 4, -1), (1, 0, 3), (3, 2, 0), (0, 5, 1)]
        self.assertLessEqual({1, 2, 3, 4}, set(self.assert_free(6, sayings, 0, 1)))
        self.assertLessEqual({0, 1, 2, 3, 4}, set(self.assert_free(6, sayings, 5, 0)))

    def test_the_least_of_several_chains(self):
        several = [(0, 3, 10), (0, 1, 4), (1, 3, 4), (0, 2, 3), (2, 3, 4), (1, 2, -2), (0, 3, 7)]
        self.assertEqual(self.assert_follows(4, several, 0, 3, 6), [1, 5, 4])
        self.assertEqual(self.assert_follows(4, several + [(0, 3, 5)], 0, 3, 5), [7])

    def test_numbers_below_nought(self):
        below = [(0, 1, -4), (1, 2, -5), (2, 3, -6), (3, 0, 15), (0, 3, -14)]
        self.assertEqual(self.assert_follows(4, below, 0, 3, -15), [0, 1, 2])
        self.assertEqual(self.assert_follows(4, below, 2, 1, 5), [2, 3, 0])

    def test_other_places_must_be_moved_out_of_the_way(self):
        # Place 2 can't be reached from 0, and what it leads to must keep below it all the same.
        self.assert_follows(3, [(0, 1, 100), (2, 1, -7)], 0, 1, 100)
        self.assert_follows(4, [(0, 1, 100), (2, 1, -7), (3, 2, -HUGE), (3, 0, 1)], 0, 1, 100)
        self.assert_follows(3, [(0, 1, -100), (2, 0, -7), (1, 2, 200)], 0, 1, -100)

    def test_very_large_numbers(self):
        large = [(0, 1, HUGE), (1, 2, -3 * HUGE), (2, 0, 2 * HUGE), (3, 2, -HUGE)]
        self.assert_follows(4, large, 0, 2, -2 * HUGE)
        self.assert_follows(4, large, 3, 1, 2 * HUGE)
        self.assert_free(4, large, 0, 3)

    def test_free_at_a_huge_count(self):
        last = HUGE - 1
        self.assertEqual(self.assert_free(HUGE, [(0, last, 4)], last, 0), [0])
        self.assertIn(0, self.assert_free(HUGE, [(0, last, 4)], 7, last))

    def test_many_places_and_sayings(self):
        many = held_sayings(Dice(5), 1500, 6000, 12)
        self.assert_shown(Follows, follows(1500, many, 3, 4), 1500, many, 3, 4)
        size = 5000
        chain = [(place + 1, place, place % 7 - 3) for place in range(size - 1)]
        least = sum(saying[2] for saying in chain)
        self.assertEqual(self.assert_follows(size, chain, size - 1, 0, least), list(range(size - 1))[::-1])
        self.assertEqual(self.assert_free(size, chain, 0, size - 1), [size - 1])

    def test_all_small_ones(self):
        for count, sayings, least in held_told():
            for one, other in itertools.product(range(count), repeat=2):
                if least[one][other] is None:
                    self.assert_free(count, sayings, one, other)
                else:
                    self.assert_follows(count, sayings, one, other, least[one][other])


class TellsNeedless(Case):
    def assert_needless(self, count, sayings, at):
        answer = needless(count, sayings, at)
        self.assert_shown(Needless, answer, count, sayings, at)
        self.assertNotIn(at, answer.chain)
        self.assertLessEqual(sum_of(count, sayings, answer.chain, *sayings[at][:2]), sayings[at][2])
        return answer.chain

    def assert_needed(self, count, sayings, at):
        answer = needless(count, sayings, at)
        self.assert_shown(Needed, answer, count, sayings, at)
        self.assert_true(kept(count, sayings[:at] + sayings[at + 1:], answer.heights))
        self.assert_false(kept(count, sayings[at:at + 1], answer.heights))

    def test_just_its_number_less_and_one_too_little(self):
        others = [(0, 1, 2), (1, 2, 3)]
        self.assertEqual(self.assert_needless(3, others + [(0, 2, 5)], 2), [0, 1])
        self.assertEqual(self.assert_needless(3, others + [(0, 2, 6)], 2), [0, 1])
        self.assertEqual(self.assert_needless(3, others + [(0, 2, HUGE)], 2), [0, 1])
        self.assert_needed(3, others + [(0, 2, 4)], 2)
        self.assert_needed(3, others + [(0, 2, -HUGE)], 2)

    def test_at_each_count(self):
        sayings = [(0, 2, 5), (0, 1, 2), (1, 2, 3)]
        for turn in range(3):
            turned = sayings[turn:] + sayings[:turn]
            self.assert_needless(3, turned, turned.index((0, 2, 5)))
            self.assert_needed(3, turned, turned.index((0, 1, 2)))
            self.assert_needed(3, turned, turned.index((1, 2, 3)))

    def test_one_that_stands_twice(self):
        twice = [(0, 1, 2), (1, 0, 4), (0, 1, 2)]
        self.assertEqual(self.assert_needless(2, twice, 0), [2])
        self.assertEqual(self.assert_needless(2, twice, 2), [0])
        self.assert_needed(2, twice, 1)

    def test_the_same_two_places_with_other_numbers(self):
        self.assertEqual(self.assert_needless(4, SAYINGS, 3), [0])
        self.assert_needed(4, SAYINGS, 0)

    def test_a_place_to_itself(self):
        for number in (0, 1, HUGE):
            self.assertEqual(self.assert_needless(1, [(0, 0, number)], 0), [])
            self.assertEqual(self.assert_needless(3, [(0, 1, 2), (1, 1, number), (1, 0, -2)], 1), [])

    def test_nothing_else_leads_along(self):
        self.assert_needed(2, [(0, 1, 5)], 0)
        self.assert_needed(2, [(0, 1, -HUGE)], 0)
        self.assert_needed(2, [(0, 1, HUGE)], 0)
        self.assert_needed(4, [(0, 1, 3), (2, 3, 3), (1, 0, 9)], 0)
        self.assert_needed(5, [(3, 2, -4), (0, 3, 2), (4, 2, 8), (2, 0, 7)], 0)

    def test_the_other_way_does_not_count(self):
        self.assert_needed(2, [(0, 1, 5), (1, 0, -5)], 0)
        self.assert_needed(2, [(0, 1, 5), (1, 0, -5)], 1)

    def test_at_a_huge_count(self):
        last = HUGE - 1
        self.assertEqual(self.assert_needless(HUGE, [(0, last, 4), (0, last, 4)], 1), [0])

    def test_very_large_numbers(self):
        large = [(0, 1, HUGE), (1, 2, -3 * HUGE), (0, 2, -2 * HUGE), (0, 2, 1 - 2 * HUGE)]
        self.assert_needless(3, large, 2)
        self.assert_needless(3, large, 3)
        self.assert_needed(3, large[:2] + [(0, 2, -2 * HUGE - 1)], 2)

    def test_many_places_and_sayings(self):
        many = held_sayings(Dice(9), 300, 5000, 40)
        told = [needless(300, many, at) for at in range(10)]
        self.assertEqual({type(answer) for answer in told}, {Needless, Needed})
        for at, answer in enumerate(told):
            self.assert_true(answer.shows(300, many, at))

    def test_all_small_ones(self):
        for count, sayings, least in held_told():
            for at, (lower, upper, number) in enumerate(sayings):
                others = least_sums_between(count, sayings[:at] + sayings[at + 1:])[lower][upper]
                if others is not None and others <= number:
                    self.assert_needless(count, sayings, at)
                else:
                    self.assert_needed(count, sayings, at)


class TellsFixed(Case):
    def assert_fixed(self, count, sayings, one, other):
        answer = fixed(count, sayings, one, other)
        self.assert_shown(Fixed, answer, count, sayings, one, other)
        there = sum_of(count, sayings, answer.there, one, other)
        self.assertEqual(there + sum_of(count, sayings, answer.back, other, one), 0)
        return answer

    def assert_loose(self, count, sayings, one, other):
        answer = fixed(count, sayings, one, other)
        self.assert_shown(Loose, answer, count, sayings, one, other)
        self.assert_true(kept(count, sayings, answer.first))
        self.assert_true(kept(count, sayings, answer.second))
        gaps = [told[other] - told[one] for told in (answer.first, answer.second)]
        self.assertNotEqual(gaps[0], gaps[1])
        self.assertIsNot(answer.first, answer.second)

    def test_just_nought_there_and_back(self):
        tight = [(0, 1, 5), (1, 2, -3), (2, 0, -2), (0, 1, 7)]
        for one, other in itertools.product(range(3), repeat=2):
            self.assert_fixed(4, tight, one, other)
        answer = self.assert_fixed(4, tight, 0, 2)
        self.assertEqual((answer.there, answer.back), ([0, 1], [2]))

    def test_one_above_nought(self):
        almost = [(0, 1, 5), (1, 2, -3), (2, 0, -1)]
        for one, other in itertools.permutations(range(3), 2):
            self.assert_loose(3, almost, one, other)

    def test_only_one_way(self):
        for number in (-HUGE, -1, 0, 1, HUGE):
            self.assert_loose(2, [(0, 1, number)], 0, 1)
            self.assert_loose(2, [(0, 1, number)], 1, 0)
        self.assert_loose(4, [(0, 1, 5), (1, 2, -3), (2, 1, 3), (2, 3, 0)], 0, 3)
        self.assert_loose(4, [(0, 1, 5), (1, 2, -3), (2, 1, 3), (2, 3, 0)], 3, 0)

    def test_no_way(self):
        self.assert_loose(2, [], 0, 1)
        self.assert_loose(4, SAYINGS, 0, 3)
        self.assert_loose(4, SAYINGS, 3, 0)
        self.assert_loose(4, [(0, 1, 1), (2, 1, 1), (3, 0, 1), (3, 2, 1)], 0, 2)

    def test_one_place_twice(self):
        for place in range(4):
            self.assert_fixed(4, SAYINGS, place, place)
        self.assert_fixed(1, [], 0, 0)
        self.assert_fixed(1, [(0, 0, 5)], 0, 0)

    def test_at_a_huge_count(self):
        last = HUGE - 1
        self.assert_fixed(HUGE, [(0, last, 4), (last, 0, -4)], last, 0)
        self.assert_fixed(HUGE, [], last, last)

    def test_very_large_numbers(self):
        large = [(0, 1, HUGE), (1, 2, -3 * HUGE), (2, 0, 2 * HUGE)]
        self.assert_fixed(3, large, 0, 2)
        self.assert_loose(3, large[:2] + [(2, 0, 2 * HUGE + 1)], 0, 2)

    def test_many_places_and_sayings(self):
        size = 3000
        ring = [(place + 1, place, place % 7 - 3) for place in range(size - 1)]
        together = sum(saying[2] for saying in ring)
        self.assert_fixed(size, ring + [(0, size - 1, -together)], 17, 2000)
        self.assert_loose(size, ring + [(0, size - 1, 1 - together)], 17, 2000)
        self.assert_loose(size, ring, 17, 2000)

    def test_all_small_ones(self):
        for count, sayings, least in held_told():
            for one, other in itertools.product(range(count), repeat=2):
                both = (least[one][other], least[other][one])
                if None not in both and sum(both) == 0:
                    self.assert_fixed(count, sayings, one, other)
                else:
                    self.assert_loose(count, sayings, one, other)
