"""Sayings, heights and chains: what is one, what is refused as none, and what keeps or comes of them.

No refusal's words show what was handed in: a very long number can't be written out as a text.
"""

from atmost.errors import BadCount, BadNumber, BadPlace, BadSayings


# To Python True and False are whole numbers; here they are none.
def is_whole(value):
    return isinstance(value, int) and not isinstance(value, bool)


# Places and sayings are both counted from 0. A number below 0 is none of them, though as an index it would be.
def is_counted(count, value):
    return is_whole(value) and 0 <= value < count


def is_saying(count, value):
    if not isinstance(value, tuple) or len(value) != 3:
        return False
    return is_counted(count, value[0]) and is_counted(count, value[1]) and is_whole(value[2])


def are_heights(count, value):
    if not isinstance(value, list) or len(value) != count:
        return False
    return all([is_whole(height) for height in value])


def is_chain(sayings, value, one, other):
    if not isinstance(value, list):
        return False
    place = one
    for at in value:
        if not is_counted(len(sayings), at) or sayings[at][0] != place:
            return False
        place = sayings[at][1]
    return place == other


def check_sayings(count, sayings):
    if not is_whole(count) or count < 1:
        raise BadCount("the count of places is no whole number from 1 on")
    if not isinstance(sayings, list):
        raise BadSayings("the sayings are no list")
    for saying in sayings:
        if not is_saying(count, saying):
            raise BadSayings("a saying is no triple of two places and a whole number")


def check_places(count, one, other):
    if not is_counted(count, one):
        raise BadPlace("the one is no place")
    if not is_counted(count, other):
        raise BadPlace("the other is no place")


def above(heights, one, other):
    return heights[other] - heights[one]


def keep_one(saying, heights):
    return above(heights, saying[0], saying[1]) <= saying[2]


def keep_all(sayings, heights):
    return all([keep_one(saying, heights) for saying in sayings])


def chain_sum(sayings, chain):
    return sum([sayings[at][2] for at in chain])


def kept(count, sayings, heights):
    check_sayings(count, sayings)
    if not are_heights(count, heights):
        raise BadNumber("the heights are no list of a whole number for each place")
    return keep_all(sayings, heights)


def sum_of(count, sayings, chain, one, other):
    check_sayings(count, sayings)
    check_places(count, one, other)
    if not is_chain(sayings, chain, one, other):
        raise BadNumber("the chain is none from the one to the other")
    return chain_sum(sayings, chain)
