import copy
import itertools

from atmost.answers import (
    Answer, Fixed, Follows, Free, Heights, Loose, Needed, Needless, Ring,
)
from odd import HUGE, Case

# Kept by [0, 5, 2]; 0 -> 1 -> 2 sums to 2, 2 -> 0 is 4; nothing leads to or from place 3.
SAYINGS = [(0, 1, 5), (1, 2, -3), (2, 0, 4), (0, 1, 7)]
# No heights keep these: 0 -> 1 -> 0 sums to -1.
BROKEN = [(0, 1, 2), (1, 0, -3)]
CLASSES = (Heights, Ring, Follows, Free, Needless, Needed, Fixed, Loose)
FIELDS = {
    Heights: ["heights"], Ring: ["chain"], Follows: ["chain", "heights"], Free: ["places"],
    Needless: ["chain"], Needed: ["heights"], Fixed: ["there", "back"], Loose: ["first", "second"],
}


class Fields(Case):
    def test_answer_and_the_eight_straight_under_it(self):
        self.assertEqual(Answer.__bases__, (object,))
        for answer in CLASSES:
            self.assertEqual(answer.__bases__, (Answer,))

    def test_fields_by_their_names_and_in_their_order(self):
        for answer, names in FIELDS.items():
            lists = [[3, 1], [2]][:len(names)]
            for made in (answer(*lists), answer(**dict(zip(names, lists)))):
                self.assertEqual(vars(made), dict(zip(names, lists)))

    def test_lists_are_copied(self):
        for answer, names in FIELDS.items():
            lists = [[3, 1], [2]][:len(names)]
            made = answer(*lists)
            for name, handed in zip(names, lists):
                before = list(handed)
                self.assertIsNot(getattr(made, name), handed)
                handed.append(9)
                self.assertEqual(getattr(made, name), before)
                self.assertIs(type(getattr(made, name)), list)

    def test_one_list_handed_in_twice_makes_two_fields(self):
        for answer in (Follows, Fixed, Loose):
            same = [0, 1]
            made = answer(same, same)
            first, second = [getattr(made, name) for name in FIELDS[answer]]
            self.assertIsNot(first, second)

    def test_a_changed_answer_leaves_what_was_handed_in(self):
        for answer, names in FIELDS.items():
            lists = [[3, 1], [2]][:len(names)]
            made = answer(*lists)
            for name in names:
                getattr(made, name).clear()
            self.assertEqual(lists, [[3, 1], [2]][:len(names)])

    def test_lists_changed_later_do_not_change_what_is_shown(self):
        heights = [0, 5, 2, 0]
        answer = Heights(heights)
        heights[1] = 6
        self.assert_true(answer.shows(4, SAYINGS))
        places = [0, 1, 2]
        answer = Free(places)
        places.append(3)
        self.assert_true(answer.shows(4, SAYINGS, 3, 0))

    def test_empty_lists(self):
        for answer, names in FIELDS.items():
            made = answer(*[[] for name in names])
            self.assertEqual(vars(made), {name: [] for name in names})

    def test_asking_changes_nothing(self):
        told = {Heights: (), Ring: (), Needless: (3,), Needed: (3,)}
        for answer, names in FIELDS.items():
            for lists in ([[0], [0, 5, 2, 0]], [[0, 1, 2], [2]], [[0, 5, 2, 0], [0, 5, 2, 1]]):
                made = answer(*lists[:len(names)])
                before = copy.deepcopy(vars(made))
                sayings = list(SAYINGS)
                made.shows(4, sayings, *told.get(answer, (0, 1)))
                self.assertEqual(vars(made), before)
                self.assertEqual(sayings, SAYINGS)


class ShowsHeights(Case):
    def test_right(self):
        self.assert_true(Heights([0, 5, 2, 0]).shows(4, SAYINGS))
        self.assert_true(Heights([-HUGE, 5 - HUGE, 2 - HUGE, HUGE]).shows(4, SAYINGS))
        self.assert_true(Heights([7]).shows(1, []))

    def test_a_saying_not_kept(self):
        self.assert_false(Heights([0, 6, 2, 0]).shows(4, SAYINGS))
        self.assert_false(Heights([0, 5, 3, 0]).shows(4, SAYINGS))
        self.assert_false(Heights([0, 1, -5, 0]).shows(4, SAYINGS))

    def test_too_few_or_too_many(self):
        self.assert_false(Heights([]).shows(1, []))
        self.assert_false(Heights([0, 5, 2]).shows(4, SAYINGS))
        self.assert_false(Heights([0, 5, 2, 0, 0]).shows(4, SAYINGS))
        self.assert_false(Heights([0]).shows(HUGE, []))

    def test_no_heights_keep_all(self):
        for first in range(-5, 6):
            self.assert_false(Heights([0, first]).shows(2, BROKEN))

    def test_fields_as_they_stand(self):
        answer = Heights([0, 6, 2, 0])
        answer.heights[1] = 5
        self.assert_true(answer.shows(4, SAYINGS))
        answer.heights = [0, 5, 2]
        self.assert_false(answer.shows(4, SAYINGS))


class ShowsRing(Case):
    def test_right(self):
        self.assert_true(Ring([0, 1]).shows(2, BROKEN))
        self.assert_true(Ring([1, 0]).shows(2, BROKEN))
        self.assert_true(Ring([0]).shows(1, [(0, 0, -1)]))
        self.assert_true(Ring([1]).shows(3, [(0, 1, 2), (2, 2, -HUGE)]))

    def test_a_saying_used_twice(self):
        self.assert_true(Ring([0, 1, 0, 1]).shows(2, BROKEN))

    def test_a_chain_of_none(self):
        self.assert_false(Ring([]).shows(2, BROKEN))
        self.assert_false(Ring([]).shows(1, []))

    def test_a_sum_of_nought_or_above(self):
        self.assert_false(Ring([0, 1]).shows(2, [(0, 1, 3), (1, 0, -3)]))
        self.assert_false(Ring([0, 1]).shows(2, [(0, 1, 4), (1, 0, -3)]))
        self.assert_false(Ring([0]).shows(1, [(0, 0, 0)]))

    def test_not_back_to_its_place(self):
        self.assert_false(Ring([1]).shows(2, BROKEN))
        self.assert_false(Ring([1, 0, 1]).shows(2, BROKEN))

    def test_a_gap(self):
        self.assert_false(Ring([0, 1]).shows(3, [(0, 1, -5), (2, 0, -5)]))
        self.assert_false(Ring([0, 0]).shows(2, [(0, 1, -5)]))

    def test_counts_of_no_saying(self):
        for at in (-1, -2, 2, HUGE, -HUGE):
            self.assert_false(Ring([at]).shows(1, [(0, 0, -1), (0, 0, -1)]))
            self.assert_false(Ring([0, at]).shows(1, [(0, 0, -1), (0, 0, -1)]))
            self.assert_false(Ring([at, 0]).shows(1, [(0, 0, -1), (0, 0, -1)]))
        self.assert_false(Ring([0]).shows(1, []))

    def test_fields_as_they_stand(self):
        answer = Ring([0])
        answer.chain.append(1)
        self.assert_true(answer.shows(2, BROKEN))
        answer.chain = []
        self.assert_false(answer.shows(2, BROKEN))


class ShowsFollows(Case):
    def test_right(self):
        self.assert_true(Follows([0, 1], [0, 5, 2, 0]).shows(4, SAYINGS, 0, 2))
        self.assert_true(Follows([2, 0], [4, 9, 0, -50]).shows(4, SAYINGS + [(1, 2, -9)], 2, 1))
        self.assert_true(Follows([], [0, 5, 2, 0]).shows(4, SAYINGS, 3, 3))
        self.assert_true(Follows([], [0]).shows(1, [], 0, 0))

    def test_a_sum_that_the_heights_do_not_reach(self):
        self.assert_false(Follows([0, 1], [0, 4, 1, 0]).shows(4, SAYINGS, 0, 2))
        self.assert_false(Follows([3], [0, 5, 2, 0]).shows(4, SAYINGS, 0, 1))

    def test_a_chain_round_whose_sum_is_not_nought(self):
        self.assert_false(Follows([0], [0]).shows(1, [(0, 0, 1)], 0, 0))
        self.assert_false(Follows([0, 1], [0, 0]).shows(2, [(0, 1, 1), (1, 0, 1)], 0, 0))

    def test_heights_that_do_not_keep_all(self):
        self.assert_false(Follows([3], [0, 7, 2, 0]).shows(4, SAYINGS, 0, 1))
        self.assert_false(Follows([0, 1], [0, 4, 2, 0]).shows(4, SAYINGS, 0, 2))

    def test_too_few_or_too_many_heights(self):
        self.assert_false(Follows([0, 1], [0, 5, 2]).shows(4, SAYINGS, 0, 2))
        self.assert_false(Follows([0, 1], [0, 5, 2, 0, 0]).shows(4, SAYINGS, 0, 2))
        self.assert_false(Follows([0, 1], []).shows(4, SAYINGS, 0, 2))

    def test_no_chain_from_the_one_to_the_other(self):
        flat = [(0, 1, 0), (1, 2, 0), (2, 0, 0), (3, 3, 0)]
        heights = [0, 0, 0, 0]
        self.assert_true(Follows([0, 1], heights).shows(4, flat, 0, 2))
        for chain in ([], [1], [0], [0, 2], [1, 0], [0, 1, 2], [0, 1, 3], [-4, 1], [0, -3], [0, 4], [0, 1, HUGE]):
            self.assert_false(Follows(chain, heights).shows(4, flat, 0, 2))
        self.assert_false(Follows([0, 1], heights).shows(4, flat, 2, 0))
        self.assert_false(Follows([], heights).shows(4, flat, 0, 3))

    def test_sayings_that_no_heights_keep(self):
        self.assert_false(Follows([0], [0, 2]).shows(2, BROKEN, 0, 1))
        self.assert_false(Follows([], [0, 0]).shows(2, BROKEN, 0, 0))

    def test_fields_as_they_stand(self):
        answer = Follows([0], [0, 5, 2, 0])
        answer.chain.append(1)
        self.assert_true(answer.shows(4, SAYINGS, 0, 2))
        answer.heights[1] = 6
        self.assert_false(answer.shows(4, SAYINGS, 0, 2))


class ShowsFree(Case):
    def test_right(self):
        self.assert_true(Free([3]).shows(4, SAYINGS, 0, 3))
        self.assert_true(Free([0, 1, 2]).shows(4, SAYINGS, 3, 1))
        self.assert_true(Free([1]).shows(2, [(1, 0, 4)], 0, 1))
        self.assert_true(Free([1]).shows(2, [], 0, 1))
        self.assert_true(Free([0, 2]).shows(3, [], 1, 0))

    def test_a_place_to_itself_leads_in_from_nowhere(self):
        self.assert_true(Free([1]).shows(2, [(1, 1, 0), (0, 0, 0)], 0, 1))

    def test_not_rising(self):
        self.assert_false(Free([1, 0, 2]).shows(4, SAYINGS, 3, 1))
        self.assert_false(Free([0, 2, 1]).shows(4, SAYINGS, 3, 1))
        self.assert_false(Free([0, 1, 1, 2]).shows(4, SAYINGS, 3, 1))
        self.assert_false(Free([3, 3]).shows(4, SAYINGS, 0, 3))

    def test_the_one_among_them(self):
        self.assert_false(Free([0, 1, 2, 3]).shows(4, SAYINGS, 3, 1))
        self.assert_false(Free([1]).shows(2, [], 1, 1))

    def test_the_other_not_among_them(self):
        self.assert_false(Free([1]).shows(3, [], 0, 2))
        self.assert_false(Free([]).shows(3, [], 0, 2))
        self.assert_false(Free([]).shows(3, [], 0, 0))

    def test_a_place_out_of_range(self):
        self.assert_false(Free([3, 4]).shows(4, SAYINGS, 0, 3))
        self.assert_false(Free([-1, 3]).shows(4, SAYINGS, 0, 3))
        self.assert_false(Free([3, HUGE]).shows(4, SAYINGS, 0, 3))
        self.assert_false(Free([-HUGE, 3]).shows(4, SAYINGS, 0, 3))

    def test_a_saying_that_leads_in(self):
        self.assert_false(Free([1]).shows(2, [(0, 1, HUGE)], 0, 1))
        self.assert_false(Free([1, 2]).shows(4, SAYINGS, 3, 1))
        self.assert_false(Free([0, 1, 2]).shows(4, SAYINGS + [(3, 2, 100)], 3, 1))

    def test_a_saying_that_leads_out(self):
        self.assert_true(Free([0, 1, 2]).shows(4, SAYINGS + [(2, 3, -100)], 3, 1))

    def test_sayings_that_no_heights_keep(self):
        self.assert_true(Free([2]).shows(3, BROKEN, 0, 2))
        self.assert_true(Free([0, 1]).shows(3, BROKEN, 2, 0))
        self.assert_false(Free([1]).shows(3, BROKEN, 0, 1))

    def test_fields_as_they_stand(self):
        answer = Free([0, 1])
        answer.places.append(2)
        self.assert_true(answer.shows(4, SAYINGS, 3, 1))
        answer.places = [2]
        self.assert_false(answer.shows(4, SAYINGS, 3, 1))


class ShowsNeedless(Case):
    def test_right(self):
        self.assert_true(Needless([0]).shows(4, SAYINGS, 3))
        sayings = [(0, 1, 2), (1, 2, 3), (0, 2, 5)]
        self.assert_true(Needless([0, 1]).shows(3, sayings, 2))
        self.assert_true(Needless([0, 1]).shows(3, sayings[:2] + [(0, 2, 6)], 2))

    def test_a_sum_one_too_great(self):
        self.assert_false(Needless([0, 1]).shows(3, [(0, 1, 2), (1, 2, 3), (0, 2, 4)], 2))
        self.assert_false(Needless([3]).shows(4, SAYINGS, 0))

    def test_the_same_triple_twice(self):
        twice = [(0, 1, 2), (0, 1, 2)]
        self.assert_true(Needless([1]).shows(2, twice, 0))
        self.assert_true(Needless([0]).shows(2, twice, 1))

    def test_the_saying_itself_in_the_chain(self):
        self.assert_false(Needless([0]).shows(4, SAYINGS, 0))
        self.assert_false(Needless([1]).shows(2, [(0, 1, 2), (0, 1, 2)], 1))
        self.assert_false(Needless([1, 0]).shows(1, [(0, 0, 0), (0, 0, 0)], 0))
        self.assert_false(Needless([0, 1, 0]).shows(2, [(0, 1, 0), (1, 0, 0), (0, 1, 0)], 0))

    def test_the_chain_of_none(self):
        self.assert_true(Needless([]).shows(1, [(0, 0, 0)], 0))
        self.assert_true(Needless([]).shows(1, [(0, 0, 3)], 0))
        self.assert_false(Needless([]).shows(1, [(0, 0, -1)], 0))
        self.assert_false(Needless([]).shows(2, [(0, 1, 3)], 0))

    def test_no_chain_from_its_lower_to_its_upper_place(self):
        flat = [(0, 1, 0), (1, 2, 0), (2, 0, 0), (0, 2, 0)]
        self.assert_true(Needless([0, 1]).shows(3, flat, 3))
        for chain in ([], [1], [0], [2], [1, 0], [0, 2], [0, 1, 2], [-4, 1], [0, -3], [0, 4], [0, 1, HUGE]):
            self.assert_false(Needless(chain).shows(3, flat, 3))

    def test_sayings_that_no_heights_keep(self):
        sayings = BROKEN + [(0, 1, 2), (0, 0, -2)]
        self.assert_true(Needless([0]).shows(2, sayings, 2))
        self.assert_true(Needless([0, 1, 0, 1]).shows(2, sayings, 3))
        self.assert_false(Needless([0, 1]).shows(2, sayings, 3))

    def test_fields_as_they_stand(self):
        answer = Needless([])
        answer.chain.append(0)
        self.assert_true(answer.shows(4, SAYINGS, 3))
        answer.chain = [3]
        self.assert_false(answer.shows(4, SAYINGS, 3))


class ShowsNeeded(Case):
    def test_right(self):
        self.assert_true(Needed([0, 6, 2, 0]).shows(4, SAYINGS, 0))
        self.assert_true(Needed([0, 5, 3, 0]).shows(4, SAYINGS, 1))
        self.assert_true(Needed([0, 0, -5, 0]).shows(4, SAYINGS, 2))
        self.assert_true(Needed([0, HUGE]).shows(2, [(0, 1, HUGE - 1)], 0))

    def test_heights_that_keep_it(self):
        for at in range(4):
            self.assert_false(Needed([0, 5, 2, 0]).shows(4, SAYINGS, at))
        self.assert_false(Needed([0, HUGE]).shows(2, [(0, 1, HUGE)], 0))

    def test_heights_that_do_not_keep_another(self):
        self.assert_false(Needed([0, 8, 2, 0]).shows(4, SAYINGS, 0))
        self.assert_false(Needed([0, 8, 2, 0]).shows(4, SAYINGS, 3))
        self.assert_false(Needed([0, 6, 4, 0]).shows(4, SAYINGS, 0))

    def test_the_same_triple_twice(self):
        twice = [(0, 1, 2), (0, 1, 2)]
        self.assert_false(Needed([0, 3]).shows(2, twice, 0))
        self.assert_false(Needed([0, 3]).shows(2, twice, 1))

    def test_too_few_or_too_many(self):
        self.assert_false(Needed([0, 6, 2]).shows(4, SAYINGS, 0))
        self.assert_false(Needed([0, 6, 2, 0, 0]).shows(4, SAYINGS, 0))
        self.assert_false(Needed([]).shows(4, SAYINGS, 0))

    def test_sayings_that_no_heights_keep(self):
        self.assert_true(Needed([0, 3]).shows(2, [(0, 1, 2), (1, 0, -3)], 0))
        self.assert_true(Needed([0, 2]).shows(2, [(0, 1, 2), (1, 0, -3)], 1))
        self.assert_true(Needed([4]).shows(1, [(0, 0, -1)], 0))
        self.assert_false(Needed([0, 2]).shows(2, BROKEN + [(0, 1, 1)], 2))

    def test_fields_as_they_stand(self):
        answer = Needed([0, 5, 2, 0])
        answer.heights[1] = 6
        self.assert_true(answer.shows(4, SAYINGS, 0))
        answer.heights = [0, 5, 2, 0]
        self.assert_false(answer.shows(4, SAYINGS, 0))


class ShowsFixed(Case):
    TIGHT = [(0, 1, 5), (1, 2, -3), (2, 0, -2), (0, 1, 7), (2, 2, 0), (3, 3, 1)]

    def test_right(self):
        self.assert_true(Fixed([0, 1], [2]).shows(4, self.TIGHT, 0, 2))
        self.assert_true(Fixed([2], [0, 1]).shows(4, self.TIGHT, 2, 0))
        self.assert_true(Fixed([0, 1, 4], [4, 2]).shows(4, self.TIGHT, 0, 2))

    def test_a_place_and_itself(self):
        self.assert_true(Fixed([], []).shows(1, [], 0, 0))
        self.assert_true(Fixed([4], []).shows(4, self.TIGHT, 2, 2))
        self.assert_true(Fixed([], [0, 1, 2]).shows(4, self.TIGHT, 0, 0))
        self.assert_false(Fixed([5], []).shows(4, self.TIGHT, 3, 3))
        self.assert_false(Fixed([], [5]).shows(4, self.TIGHT, 3, 3))

    def test_sums_not_together_nought(self):
        self.assert_false(Fixed([3, 1], [2]).shows(4, self.TIGHT, 0, 2))
        self.assert_false(Fixed([0], [1]).shows(2, [(0, 1, 5), (1, 0, -4)], 0, 1))
        self.assert_false(Fixed([0], [1]).shows(2, [(0, 1, 5), (1, 0, -6)], 0, 1))
        self.assert_false(Fixed([0], [1]).shows(2, [(0, 1, 5), (1, 0, 5)], 0, 1))

    def test_no_chain_there_or_none_back(self):
        flat = [(0, 1, 0), (1, 2, 0), (2, 0, 0), (3, 3, 0)]
        self.assert_true(Fixed([0, 1], [2]).shows(4, flat, 0, 2))
        for chain in ([], [1], [0], [0, 2], [1, 0], [0, 1, 2], [-4, 1], [0, -3], [0, 4], [0, 1, HUGE]):
            self.assert_false(Fixed(chain, [2]).shows(4, flat, 0, 2))
            self.assert_false(Fixed([2], chain).shows(4, flat, 2, 0))
        self.assert_false(Fixed([0, 1], [2]).shows(4, flat, 2, 0))
        self.assert_false(Fixed([], []).shows(4, flat, 0, 3))

    def test_sayings_that_no_heights_keep(self):
        sayings = [(0, 1, 5), (1, 0, -5), (2, 2, -1)]
        self.assert_true(Fixed([0], [1]).shows(3, sayings, 0, 1))
        self.assert_false(Fixed([0], [1]).shows(2, BROKEN, 0, 1))

    def test_fields_as_they_stand(self):
        answer = Fixed([0], [])
        answer.there.append(1)
        answer.back.append(2)
        self.assert_true(answer.shows(4, self.TIGHT, 0, 2))
        answer.back = []
        self.assert_false(answer.shows(4, self.TIGHT, 0, 2))


class ShowsLoose(Case):
    def test_right(self):
        self.assert_true(Loose([0, 5, 2, 0], [0, 4, 1, 0]).shows(4, SAYINGS, 0, 1))
        self.assert_true(Loose([0, 5, 2, 0], [0, 5, 2, HUGE]).shows(4, SAYINGS, 3, 0))
        self.assert_true(Loose([0, 5, 2, 0], [1, 6, 3, 0]).shows(4, SAYINGS, 0, 3))
        self.assert_true(Loose([0, 0], [0, 1]).shows(2, [], 0, 1))

    def test_equal_distances(self):
        self.assert_false(Loose([0, 5, 2, 0], [0, 5, 2, 0]).shows(4, SAYINGS, 0, 1))
        self.assert_false(Loose([0, 5, 2, 0], [9, 14, 11, 0]).shows(4, SAYINGS, 0, 1))
        self.assert_false(Loose([0, 5, 2, 0], [0, 5, 1, 7]).shows(4, SAYINGS, 0, 1))

    def test_distances_of_either_sign_are_not_equal(self):
        self.assert_true(Loose([0, 3], [3, 0]).shows(2, [], 0, 1))

    def test_a_place_and_itself(self):
        self.assert_false(Loose([0, 0], [5, 9]).shows(2, [], 1, 1))

    def test_heights_that_do_not_keep_all(self):
        self.assert_false(Loose([0, 6, 2, 0], [0, 4, 1, 0]).shows(4, SAYINGS, 0, 1))
        self.assert_false(Loose([0, 4, 1, 0], [0, 6, 2, 0]).shows(4, SAYINGS, 0, 1))

    def test_too_few_or_too_many(self):
        right = [0, 4, 1, 0]
        for heights in ([], [0, 5], [0, 5, 2], [0, 5, 2, 0, 0]):
            self.assert_false(Loose(heights, right).shows(4, SAYINGS, 0, 1))
            self.assert_false(Loose(right, heights).shows(4, SAYINGS, 0, 1))

    def test_sayings_that_no_heights_keep(self):
        self.assert_false(Loose([0, 2], [0, 3]).shows(2, BROKEN, 0, 1))

    def test_fields_as_they_stand(self):
        answer = Loose([0, 5, 2, 0], [0, 5, 2, 0])
        answer.second[1] = 4
        answer.second[2] = 1
        self.assert_true(answer.shows(4, SAYINGS, 0, 1))
        answer.first = [0, 4, 1, 0]
        self.assert_false(answer.shows(4, SAYINGS, 0, 1))


class NeverBoth(Case):
    """Of each pair of answers no two are shown together, also of sayings that no heights keep."""

    def setUp(self):
        triples = list(itertools.product(range(2), range(2), (-1, 0, 1)))
        self.told = [list(sayings) for sayings in itertools.product(triples, repeat=2)]
        self.heights = [list(heights) for heights in itertools.product(range(-1, 2), repeat=2)]
        self.chains = [list(chain) for size in range(4) for chain in itertools.product(range(2), repeat=size)]

    def assert_never_both(self, some, more, *told):
        shown = [any(answer.shows(2, *told) for answer in answers) for answers in (some, more)]
        self.assertIn(False, shown)
        return shown

    def test_heights_and_ring(self):
        some = [Heights(heights) for heights in self.heights]
        more = [Ring(chain) for chain in self.chains]
        for sayings in self.told:
            # Two places are few enough for one of the two to be found among these.
            self.assertIn(True, self.assert_never_both(some, more, sayings))

    def test_follows_and_free(self):
        some = [Follows(chain, heights) for chain in self.chains for heights in self.heights]
        more = [Free(places) for places in ([], [0], [1], [0, 1])]
        for sayings in self.told:
            for one, other in itertools.product(range(2), repeat=2):
                self.assert_never_both(some, more, sayings, one, other)

    def test_needless_and_needed(self):
        some = [Needless(chain) for chain in self.chains]
        more = [Needed(heights) for heights in self.heights]
        for sayings in self.told:
            for at in range(2):
                self.assert_never_both(some, more, sayings, at)

    def test_fixed_and_loose(self):
        some = [Fixed(there, back) for there in self.chains[:7] for back in self.chains[:7]]
        more = [Loose(first, second) for first in self.heights for second in self.heights]
        for sayings in self.told:
            for one, other in itertools.product(range(2), repeat=2):
                self.assert_never_both(some, more, sayings, one, other)
