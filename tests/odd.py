"""Things of every kind that are not what is asked for, and what the tests share."""

import unittest

HUGE = 10 ** 5000


class Prickly:
    """Fails at whatever is done with it but asking of what class it is."""

    def fail(self, *others):
        raise RuntimeError("this was not to be touched")

    __eq__ = __lt__ = __le__ = __gt__ = __ge__ = __hash__ = fail
    __len__ = __iter__ = __getitem__ = __bool__ = __index__ = __int__ = fail
    __add__ = __radd__ = __sub__ = __rsub__ = __repr__ = __str__ = fail


def no_numbers():
    return [
        None, True, False, "", "0", "1", 0.0, 1.0, 1.5, float("nan"), float("inf"), 1j, b"1",
        [], [0], (), (0,), {}, {0: 0}, set(), frozenset([0]), range(2), object(), int, len, Prickly(),
    ]


def no_lists():
    return [
        None, True, False, 0, 1, -1, HUGE, "", "00", 0.0, b"", (), (0,), (0, 0), ((0, 1, 5),),
        {}, {0: 0}, set(), frozenset([0]), range(2), iter([]), object(), list, len, Prickly(),
    ]


class Case(unittest.TestCase):
    def assert_refused(self, error, call, *told):
        with self.assertRaises(Exception) as caught:
            call(*told)
        self.assertIs(type(caught.exception), error)

    def assert_true(self, truth):
        self.assertIs(truth, True)

    def assert_false(self, truth):
        self.assertIs(truth, False)
