"""Things of every kind that are not what is asked for, and what the tests share."""

import itertools
import unittest

HUGE = 10 ** 5000


class Prickly:
    """Fails at whatever is done with it but asking of what class it is."""

    def fail(self, *others):
        raise RuntimeError("this was not to be touched")

    __eq__ = __lt__ = __le__ = __gt__ = __ge__ = __hash__ = fail
    __len__ = __iter__ = __getitem__ = __bool__ = __index__ = __int__ = fail
    __add__ = __radd__ = __sub__ = __rsub__ = __repr__ = __str__ = fail


def no_numbers():
    return [
        None, True, False, "", "0", "1", 0.0, 1.0, 1.5, float("nan"), float("inf"), 1j, b"1",
        [], [0], (), (0,), {}, {0: 0}, set(), frozenset([0]), range(2), object(), int, len, Prickly(),
    ]


def no_lists():
    return [
        None, True, False, 0, 1, -1, HUGE, "", "00", 0.0, b"", (), (0,), (0, 0), ((0, 1, 5),),
        {}, {0: 0}, set(), frozenset([0]), range(2), iter([]), object(), list, len, Prickly(),
    ]


def bad_sayings():
    """Each is no list of sayings on three places, for one cause alone."""
    wrong = [[saying] for saying in no_lists()]
    wrong += [[[0, 1, 5]], [()], [(0,)], [(0, 1)], [(0, 1, 5, 5)], ["015"], [{0: 0, 1: 1, 2: 2}]]
    wrong += [[(-1, 1, 5)], [(0, -1, 5)], [(3, 1, 5)], [(0, 3, 5)], [(HUGE, 1, 5)], [(0, -HUGE, 5)]]
    for value in no_numbers():
        wrong += [[(value, 1, 5)], [(0, value, 5)], [(0, 1, value)]]
    wrong += [[(0, 1, 5), (1, 2, 3), (1, 2)], [(0, 1), (1, 2, 3)], [(0, 1, 5), [(0, 1, 5)]]]
    return no_lists() + wrong


def bad_counts():
    return no_numbers() + [0, -1, -3, -HUGE]


def bad_places():
    """Of three places."""
    return no_numbers() + [-1, -3, 3, 4, HUGE, -HUGE]


class Dice:
    """Numbers that look thrown, and are the same in every run."""

    def __init__(self, seed):
        self.state = seed

    def throw(self, least, most):
        self.state = (self.state * 6364136223846793005 + 1442695040888963407) % 2 ** 64
        return least + (self.state >> 33) % (most - least + 1)


def thrown_sayings(dice, count, size, least, most):
    last = count - 1
    return [(dice.throw(0, last), dice.throw(0, last), dice.throw(least, most)) for at in range(size)]


def held_sayings(dice, count, size, slack):
    """Sayings that the heights thrown first keep, each with up to so much to spare."""
    heights = [dice.throw(-20, 20) for place in range(count)]
    pairs = [(dice.throw(0, count - 1), dice.throw(0, count - 1)) for at in range(size)]
    return [(lower, upper, heights[upper] - heights[lower] + dice.throw(0, slack)) for lower, upper in pairs]


def all_told():
    """Many counts with sayings, small enough to be looked through: such as heights keep, and such as none keep."""
    triples = list(itertools.product(range(2), range(2), (-1, 0, 1)))
    told = [(2, list(some)) for size in range(3) for some in itertools.product(triples, repeat=size)]
    dice = Dice(7)
    for at in range(150):
        count = dice.throw(1, 5)
        told.append((count, thrown_sayings(dice, count, dice.throw(0, 9), -3, 6)))
        told.append((count, held_sayings(dice, count, dice.throw(0, 12), 1)))
        told.append((count, held_sayings(dice, count, dice.throw(0, 12), 9)))
    return told


def least_sums_between(count, sayings):
    """The least sum of a chain from each place to each, None where none leads; None if there is no least."""
    least = [[0 if one == other else None for other in range(count)] for one in range(count)]
    for lower, upper, number in sayings:
        if least[lower][upper] is None or number < least[lower][upper]:
            least[lower][upper] = number
    for by, one, other in itertools.product(range(count), repeat=3):
        if least[one][by] is not None and least[by][other] is not None:
            together = least[one][by] + least[by][other]
            if least[one][other] is None or together < least[one][other]:
                least[one][other] = together
    if any(least[place][place] < 0 for place in range(count)):
        return None
    return least


def held_told():
    """Those of all_told that heights keep, with the least sums between their places."""
    looked = [(count, sayings, least_sums_between(count, sayings)) for count, sayings in all_told()]
    return [told for told in looked if told[2] is not None]


class Case(unittest.TestCase):
    def assert_refused(self, error, call, *told):
        with self.assertRaises(Exception) as caught:
            call(*told)
        self.assertIs(type(caught.exception), error)

    def assert_true(self, truth):
        self.assertIs(truth, True)

    def assert_false(self, truth):
        self.assertIs(truth, False)

    def assert_shown(self, kind, answer, *told):
        self.assertIs(type(answer), kind)
        self.assert_true(answer.shows(*told))
        for field in vars(answer).values():
            self.assertIs(type(field), list)
            self.assertTrue(all(type(number) is int for number in field))
