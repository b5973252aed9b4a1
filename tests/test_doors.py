"""What holds at each door that tells: refusals and their order, and that all is new and nothing is changed."""

import copy

from atmost.answers import Ring
from atmost.ends import highest, lowest
from atmost.errors import BadCount, BadNumber, BadPlace, BadSayings, Broken, SayError
from atmost.telling import fixed, follows, heights, needless
from odd import (
    HUGE, Case, Prickly, all_told, bad_counts, bad_places, bad_sayings, least_sums_between, no_numbers,
)

SAYINGS = [(0, 1, 5), (1, 2, -3), (2, 0, 4), (0, 1, 7)]
# No heights keep these: 0 -> 1 -> 0 sums to -1.
BROKEN = [(0, 1, 2), (1, 0, -3), (1, 2, 0)]
# What comes behind the count and the sayings at each door.
BEHIND = {heights: (), follows: (0, 1), fixed: (0, 1), needless: (0,), highest: (0,), lowest: (0,)}
PAIRS = (follows, fixed)
NUMBERED = (highest, lowest)


def bad_counts_of(sayings):
    return no_numbers() + [-1, -len(sayings), len(sayings), len(sayings) + 1, HUGE, -HUGE]


class Refuses(Case):
    def test_counts(self):
        for door, behind in BEHIND.items():
            for count in bad_counts():
                self.assert_refused(BadCount, door, count, [], *behind)
                self.assert_refused(BadCount, door, count, SAYINGS, *behind)

    def test_sayings(self):
        for door, behind in BEHIND.items():
            for sayings in bad_sayings():
                self.assert_refused(BadSayings, door, 3, sayings, *behind)

    def test_places_of_sayings_go_by_the_count(self):
        for door, behind in BEHIND.items():
            door(3, [(2, 2, 0)], *behind)
            self.assert_refused(BadSayings, door, 2, [(2, 2, 0)], *behind)
            self.assert_refused(BadSayings, door, 2, [(0, 1, 0), (0, 2, 0)], *behind)

    def test_places(self):
        for door in PAIRS:
            for place in bad_places():
                self.assert_refused(BadPlace, door, 3, SAYINGS, place, 0)
                self.assert_refused(BadPlace, door, 3, SAYINGS, 0, place)
                self.assert_refused(BadPlace, door, 3, SAYINGS, place, place)
                self.assert_refused(BadPlace, door, 3, [], 2, place)
            self.assert_refused(BadPlace, door, 1, [], 0, 1)
            door(3, SAYINGS, 2, 2)

    def test_counts_of_a_saying(self):
        for at in bad_counts_of(SAYINGS):
            self.assert_refused(BadNumber, needless, 3, SAYINGS, at)
        for at in no_numbers() + [0, 1, -1, HUGE]:
            self.assert_refused(BadNumber, needless, 3, [], at)
        needless(3, SAYINGS, 3)

    def test_tops_and_bottoms(self):
        for door in NUMBERED:
            for end in no_numbers():
                self.assert_refused(BadNumber, door, 3, SAYINGS, end)
                self.assert_refused(BadNumber, door, 1, [], end)
                self.assert_refused(BadNumber, door, HUGE, [], end)

    def test_a_refusal_is_a_value_error(self):
        with self.assertRaises(ValueError):
            heights(0, [])
        with self.assertRaises(SayError):
            follows(3, BROKEN, 0, 1)


class RefusesInOrder(Case):
    def test_the_count_ahead_of_all(self):
        for count in bad_counts():
            for door, behind in BEHIND.items():
                self.assert_refused(BadCount, door, count, Prickly(), *behind)
                self.assert_refused(BadCount, door, count, [(0, 1)], *behind)
                self.assert_refused(BadCount, door, count, BROKEN, *behind)
                for at in range(len(behind)):
                    wrong = behind[:at] + (Prickly(),) + behind[at + 1:]
                    self.assert_refused(BadCount, door, count, [], *wrong)
                    self.assert_refused(BadCount, door, count, None, *wrong)

    def test_the_sayings_ahead_of_what_is_behind_them(self):
        for sayings in bad_sayings():
            for door, behind in BEHIND.items():
                for at in range(len(behind)):
                    wrong = behind[:at] + (Prickly(),) + behind[at + 1:]
                    self.assert_refused(BadSayings, door, 3, sayings, *wrong)

    def test_a_wrong_saying_behind_a_ring(self):
        for door, behind in BEHIND.items():
            self.assert_refused(BadSayings, door, 3, BROKEN + [(0, 3, 1)], *behind)
            self.assert_refused(BadSayings, door, 3, [(0, 0, -1), [0, 0, -1]], *behind)

    def test_places_ahead_of_broken(self):
        for door in PAIRS:
            for place in bad_places():
                self.assert_refused(BadPlace, door, 3, BROKEN, place, 0)
                self.assert_refused(BadPlace, door, 3, BROKEN, 0, place)
                self.assert_refused(BadPlace, door, 3, BROKEN, place, Prickly())

    def test_numbers_ahead_of_broken(self):
        for at in bad_counts_of(BROKEN):
            self.assert_refused(BadNumber, needless, 3, BROKEN, at)
        for door in NUMBERED:
            for end in no_numbers():
                self.assert_refused(BadNumber, door, 3, BROKEN, end)


class RefusesBroken(Case):
    def assert_broken(self, door, count, sayings, *behind):
        with self.assertRaises(Broken) as caught:
            door(count, sayings, *behind)
        self.assertIs(type(caught.exception), Broken)
        self.assertIs(type(caught.exception.ring), list)
        self.assert_shown(Ring, Ring(caught.exception.ring), count, sayings)
        return caught.exception

    def test_just_where_heights_tells_a_ring(self):
        for count, sayings in all_told():
            if len(sayings) == 0:
                continue
            broken = least_sums_between(count, sayings) is None
            self.assertEqual(type(heights(count, sayings)) is Ring, broken)
            for door, behind in BEHIND.items():
                if door == heights:
                    continue
                behind = tuple(min(place, count - 1) for place in behind)
                if broken:
                    self.assert_broken(door, count, sayings, *behind)
                else:
                    door(count, sayings, *behind)

    def test_wherever_the_ring_lies(self):
        ring = [(3, 4, -2), (4, 5, 3), (5, 3, -2)]
        for sayings in (ring, [(0, 1, 5)] + ring, ring + [(0, 1, 5)], [(0, 3, 1), (3, 0, 9)] + ring[::-1]):
            for one in range(6):
                for other in range(6):
                    self.assert_broken(follows, 6, sayings, one, other)
                    self.assert_broken(fixed, 6, sayings, one, other)
            for at in range(len(sayings)):
                self.assert_broken(needless, 6, sayings, at)
            for end in (0, 5, -5, HUGE, -HUGE):
                self.assert_broken(highest, 6, sayings, end)
                self.assert_broken(lowest, 6, sayings, end)

    def test_the_saying_asked_for_is_on_the_ring(self):
        # Without it heights would keep all others; with it none do.
        self.assert_broken(needless, 2, [(0, 1, 2), (1, 0, -3)], 0)
        self.assert_broken(needless, 2, [(0, 1, 2), (1, 0, -3)], 1)
        self.assert_broken(needless, 1, [(0, 0, -1)], 0)

    def test_one_place_twice(self):
        for door in PAIRS:
            self.assert_broken(door, 3, BROKEN, 2, 2)
            self.assert_broken(door, 4, BROKEN, 3, 3)

    def test_at_a_huge_count(self):
        last = HUGE - 1
        for door, behind in BEHIND.items():
            if door != heights:
                self.assert_broken(door, HUGE, [(0, last, 4), (last, 0, -5)], *behind)

    def test_very_large_numbers(self):
        for door, behind in BEHIND.items():
            if door != heights:
                self.assert_broken(door, 2, [(0, 1, HUGE), (1, 0, -HUGE - 1)], *behind)

    def test_the_ring_is_new(self):
        for door, behind in BEHIND.items():
            if door != heights:
                error = self.assert_broken(door, 3, BROKEN, *behind)
                before = list(error.ring)
                error.ring.clear()
                self.assertEqual(self.assert_broken(door, 3, BROKEN, *behind).ring, before)


class NewAndUnchanged(Case):
    ASKED = (
        (heights, 3, SAYINGS), (heights, 3, BROKEN),
        (follows, 3, SAYINGS, 0, 2), (follows, 4, SAYINGS, 0, 3), (follows, 3, SAYINGS, 1, 1),
        (needless, 3, SAYINGS, 3), (needless, 3, SAYINGS, 0), (needless, 3, SAYINGS[:2], 1),
        (fixed, 3, SAYINGS[:2] + [(2, 0, -2)], 0, 2), (fixed, 3, SAYINGS, 0, 2), (fixed, 4, SAYINGS, 3, 0),
        (highest, 4, SAYINGS, 7), (lowest, 4, SAYINGS, -7),
    )

    def lists_of(self, told):
        return [told] if isinstance(told, list) else list(vars(told).values())

    def test_each_answer_is_among_them(self):
        names = {type(asked[0](*asked[1:])).__name__ for asked in self.ASKED}
        answers = {"Heights", "Ring", "Follows", "Free", "Needless", "Needed", "Fixed", "Loose", "list"}
        self.assertEqual(names, answers)

    def test_what_is_handed_in_is_unchanged(self):
        for door, count, sayings, *behind in self.ASKED:
            handed = copy.deepcopy(sayings)
            triples = list(handed)
            door(count, handed, *behind)
            self.assertEqual(handed, sayings)
            self.assertTrue(all(left is right for left, right in zip(handed, triples)))

    def test_what_is_handed_in_is_unchanged_by_refusals(self):
        for door, behind in BEHIND.items():
            for sayings in (BROKEN, SAYINGS + [(0, 3, 1)]):
                handed = list(sayings)
                try:
                    door(3, handed, *behind)
                except SayError:
                    pass
                self.assertEqual(handed, sayings)

    def test_what_is_told_is_new(self):
        for door, *told in self.ASKED:
            before = [list(told) for told in self.lists_of(door(*told))]
            first = door(*told)
            for field in self.lists_of(first):
                self.assertFalse(any(field is handed for handed in told))
                field.append(99)
                field[0] = 77
            self.assertEqual(self.lists_of(door(*told)), before)

    def test_no_two_fields_are_one_list(self):
        for door, *told in self.ASKED:
            fields = self.lists_of(door(*told))
            self.assertEqual(len({id(field) for field in fields}), len(fields))

    def test_what_was_told_does_not_follow_the_sayings(self):
        for door, count, sayings, *behind in self.ASKED:
            handed = list(sayings)
            told = door(count, handed, *behind)
            before = copy.deepcopy(self.lists_of(told))
            handed.clear()
            self.assertEqual(self.lists_of(told), before)

    def test_sayings_changed_between(self):
        handed = [(0, 1, 5)]
        self.assertEqual(follows(2, handed, 0, 1).chain, [0])
        handed.append((0, 1, 3))
        self.assertEqual(follows(2, handed, 0, 1).chain, [1])
        handed.append((1, 0, -4))
        self.assert_refused(Broken, follows, 2, handed, 0, 1)
        handed.clear()
        self.assertEqual(follows(2, handed, 0, 1).places, [1])

    def test_arguments_by_their_names(self):
        heights(count=3, sayings=SAYINGS)
        follows(count=3, sayings=SAYINGS, one=0, other=1)
        fixed(count=3, sayings=SAYINGS, one=0, other=1)
        needless(count=3, sayings=SAYINGS, at=0)
        highest(count=3, sayings=SAYINGS, top=0)
        lowest(count=3, sayings=SAYINGS, bottom=0)
