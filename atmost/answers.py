"""The answers, each with what shows it.

The fields may have been changed since an answer was made, so each is looked at anew whenever it is asked.
"""

from atmost.sayings import above, are_heights, chain_sum, is_chain, is_counted, keep_all, keep_one


def are_kept(count, sayings, heights):
    return are_heights(count, heights) and keep_all(sayings, heights)


def are_rising_places(count, places):
    for at, place in enumerate(places):
        if not is_counted(count, place) or (at > 0 and places[at - 1] >= place):
            return False
    return True


class Answer:
    pass


class Heights(Answer):
    def __init__(self, heights):
        self.heights = list(heights)

    def shows(self, count, sayings):
        return are_kept(count, sayings, self.heights)


class Ring(Answer):
    def __init__(self, chain):
        self.chain = list(chain)

    def shows(self, count, sayings):
        # The first saying tells from which place to itself the chain is to lead.
        if len(self.chain) == 0 or not is_counted(len(sayings), self.chain[0]):
            return False
        place = sayings[self.chain[0]][0]
        return is_chain(sayings, self.chain, place, place) and chain_sum(sayings, self.chain) < 0


class Follows(Answer):
    def __init__(self, chain, heights):
        self.chain = list(chain)
        self.heights = list(heights)

    def shows(self, count, sayings, one, other):
        if not is_chain(sayings, self.chain, one, other) or not are_kept(count, sayings, self.heights):
            return False
        return above(self.heights, one, other) == chain_sum(sayings, self.chain)


class Free(Answer):
    def __init__(self, places):
        self.places = list(places)

    def shows(self, count, sayings, one, other):
        if not are_rising_places(count, self.places):
            return False
        moved = {}
        for place in self.places:
            moved[place] = True
        if one in moved or other not in moved:
            return False
        return not any([saying[1] in moved and saying[0] not in moved for saying in sayings])


class Needless(Answer):
    def __init__(self, chain):
        self.chain = list(chain)

    def shows(self, count, sayings, at):
        saying = sayings[at]
        if at in self.chain or not is_chain(sayings, self.chain, saying[0], saying[1]):
            return False
        return chain_sum(sayings, self.chain) <= saying[2]


class Needed(Answer):
    def __init__(self, heights):
        self.heights = list(heights)

    def shows(self, count, sayings, at):
        others = sayings[:at] + sayings[at + 1:]
        return are_kept(count, others, self.heights) and not keep_one(sayings[at], self.heights)


class Fixed(Answer):
    def __init__(self, there, back):
        self.there = list(there)
        self.back = list(back)

    def shows(self, count, sayings, one, other):
        if not is_chain(sayings, self.there, one, other) or not is_chain(sayings, self.back, other, one):
            return False
        return chain_sum(sayings, self.there) + chain_sum(sayings, self.back) == 0


class Loose(Answer):
    def __init__(self, first, second):
        self.first = list(first)
        self.second = list(second)

    def shows(self, count, sayings, one, other):
        if not are_kept(count, sayings, self.first) or not are_kept(count, sayings, self.second):
            return False
        return above(self.first, one, other) != above(self.second, one, other)
