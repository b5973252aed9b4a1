from atmost.walks import Walk, walking_order
from odd import Case, Dice, thrown_sayings


def goes(sayings, starts):
    """How often all sayings are gone along until no lesser sum is found."""
    walk = Walk(sayings, starts)
    order = walking_order(sayings)
    times = 1
    while walk.go_along(order):
        times += 1
    return times


class WalkingOrder(Case):
    def test_each_saying_once(self):
        dice = Dice(2)
        for size in range(20):
            self.assertEqual(sorted(walking_order(thrown_sayings(dice, 5, size, -9, 9))), list(range(size)))

    def test_sayings_without_rings_are_gone_along_once(self):
        size = 300
        chain = [(place + 1, place, -1) for place in range(size - 1)]
        skips = [(place + 9, place, -10) for place in range(size - 9)]
        for sayings in (chain, chain[::-1], chain + skips, skips + chain[::-1], chain[1::2] + skips + chain[::2]):
            self.assertEqual(goes(sayings, [size - 1]), 2)
            self.assertEqual(goes(sayings, list(range(size))), 2)

    def test_there_and_back_few_times_are_enough(self):
        size = 300
        there = [(place, place + 1, 3) for place in range(size - 1)]
        back = [(place + 1, place, -2) for place in range(size - 1)]
        for sayings in (there + back, back + there, back[::-1] + there, there[::-1] + back):
            self.assertLess(goes(sayings, list(range(size))), 5)
