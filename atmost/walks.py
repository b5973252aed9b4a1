"""Walks along sayings: the least sums of chains, the chains that have them, and the heights that come of them.

Only places that a saying speaks of are walked to: however many others there are, until heights are told they cost
nothing.
"""

from atmost.errors import Broken


# A list of what is still to be done stands here in the place of calls: chains may be longer than calls may be deep.
def finish_from(start, uppers, entered, finished):
    todo = [start]
    while len(todo) > 0:
        place = todo[-1]
        if place in entered:
            todo.pop()
            finished.setdefault(place, len(finished))
        else:
            entered[place] = True
            todo.extend([upper for upper in uppers.get(place, []) if upper not in entered])


# A place is finished once all that can be reached from it is, but for what led to it.
def finishing_order(sayings):
    uppers = {}
    for saying in sayings:
        uppers.setdefault(saying[0], []).append(saying[1])
    entered = {}
    finished = {}
    for start in uppers:
        finish_from(start, uppers, entered, finished)
    return finished


# Any order would do, but in this one going once along all sayings follows each chain that leads on, or that leads
# back, from end to end, so that few times are enough.
def walking_order(sayings):
    finished = finishing_order(sayings)
    onward = [at for at, saying in enumerate(sayings) if finished[saying[0]] > finished[saying[1]]]
    backward = [at for at, saying in enumerate(sayings) if finished[saying[0]] <= finished[saying[1]]]
    onward = sorted(onward, key=lambda at: finished[sayings[at][0]], reverse=True)
    backward = sorted(backward, key=lambda at: finished[sayings[at][0]])
    return onward + backward


# For each place that was come to, the least sum yet found of a chain from a start to it, and, but at a start, the
# chain's last saying.
class Walk:
    def __init__(self, sayings, starts):
        self.sayings = sayings
        self.sums = {}
        self.last = {}
        for start in starts:
            self.sums[start] = 0

    # Answers whether a lesser sum was found anywhere.
    def go_along(self, order):
        found = False
        for at in order:
            saying = self.sayings[at]
            if saying[0] in self.sums:
                reached = self.sums[saying[0]] + saying[2]
                if saying[1] not in self.sums or reached < self.sums[saying[1]]:
                    self.sums[saying[1]] = reached
                    self.last[saying[1]] = at
                    found = True
        return found

    def place_ahead(self, place):
        return self.sayings[self.last[place]][0]

    def chain_between(self, one, other):
        chain = []
        place = other
        while place != one:
            chain.append(self.last[place])
            place = self.place_ahead(place)
        chain.reverse()
        return chain

    # A place that going back from leads to again, or None.
    def place_on_ring(self):
        seen = {}
        for start in self.last:
            place = start
            while place in self.last and place not in seen:
                seen[place] = start
                place = self.place_ahead(place)
            # What an earlier start has seen leads to no ring, or that start would have told it.
            if seen.get(place) == start:
                return place
        return None


# For each place spoken of the least sum of all chains that lead to it. There is none if a ring's sum is below 0: a
# last saying was always taken for a lesser sum, so going back can lead round such rings alone. It does so at the
# latest when all sayings were gone along as often as there are places.
def least_sums(sayings, order):
    walk = Walk(sayings, [saying[0] for saying in sayings] + [saying[1] for saying in sayings])
    while walk.go_along(order):
        place = walk.place_on_ring()
        if place is not None:
            raise Broken(walk.chain_between(place, walk.place_ahead(place)) + [walk.last[place]])
    return walk.sums


# Only of sayings that heights keep: else the walk might never end.
def walk_from(sayings, order, one):
    walk = Walk(sayings, [one])
    found = True
    while found:
        found = walk.go_along(order)
    return walk


# All places from which a chain leads to the other one, itself among them.
def leading_to(sayings, order, other):
    lowers = {}
    for at in order:
        lowers.setdefault(sayings[at][1], []).append(sayings[at][0])
    leading = {other: True}
    todo = [other]
    while len(todo) > 0:
        place = todo.pop()
        for lower in lowers.get(place, []):
            if lower not in leading:
                leading[lower] = True
                todo.append(lower)
    return leading


# The least sums keep every saying: a chain to its lower place that goes on along it is one to its upper place.
def level(count, sums):
    return [sums.get(place, 0) for place in range(count)]


# The walk's own sums keep every saying between places it came to. The others are lifted until no lifted height is
# below such a sum: then these are the lesser of both at each place, and the lesser of what keeps all keep all.
def level_of_walk(count, sums, walk):
    lift = max([walk.sums[place] - sums.get(place, 0) for place in walk.sums])
    return [walk.sums.get(place, sums.get(place, 0) + lift) for place in range(count)]
