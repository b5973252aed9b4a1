"""The doors that tell one of two answers, each with what shows it."""

from atmost.answers import Fixed, Follows, Free, Heights, Loose, Needed, Needless, Ring
from atmost.errors import BadNumber, Broken
from atmost.sayings import above, check_places, check_sayings, is_counted
from atmost.walks import leading_to, least_sums, level, level_of_walk, walk_from, walking_order


# No saying leads to these places from any other, so moved up together they keep all that they kept.
def moved_up(ground, places, by):
    return [height + by if place in places else height for place, height in enumerate(ground)]


def heights(count, sayings):
    check_sayings(count, sayings)
    try:
        sums = least_sums(sayings, walking_order(sayings))
    except Broken as broken:
        return Ring(broken.ring)
    return Heights(level(count, sums))


def follows(count, sayings, one, other):
    check_sayings(count, sayings)
    check_places(count, one, other)
    order = walking_order(sayings)
    sums = least_sums(sayings, order)
    leading = leading_to(sayings, order, other)
    if one not in leading:
        return Free(sorted(leading))
    walk = walk_from(sayings, order, one)
    return Follows(walk.chain_between(one, other), level_of_walk(count, sums, walk))


def needless(count, sayings, at):
    check_sayings(count, sayings)
    if not is_counted(len(sayings), at):
        raise BadNumber("this is no count of a saying")
    order = walking_order(sayings)
    sums = least_sums(sayings, order)
    others = [each for each in order if each != at]
    lower = sayings[at][0]
    upper = sayings[at][1]
    leading = leading_to(sayings, others, upper)
    if lower not in leading:
        ground = level(count, sums)
        return Needed(moved_up(ground, leading, sayings[at][2] + 1 - above(ground, lower, upper)))
    walk = walk_from(sayings, others, lower)
    if walk.sums[upper] <= sayings[at][2]:
        return Needless(walk.chain_between(lower, upper))
    return Needed(level_of_walk(count, sums, walk))


def fixed(count, sayings, one, other):
    check_sayings(count, sayings)
    check_places(count, one, other)
    order = walking_order(sayings)
    sums = least_sums(sayings, order)
    for pair in ((one, other), (other, one)):
        leading = leading_to(sayings, order, pair[1])
        if pair[0] not in leading:
            ground = level(count, sums)
            return Loose(ground, moved_up(ground, leading, 1))
    there = walk_from(sayings, order, one)
    back = walk_from(sayings, order, other)
    if there.sums[other] + back.sums[one] == 0:
        return Fixed(there.chain_between(one, other), back.chain_between(other, one))
    return Loose(level_of_walk(count, sums, there), level_of_walk(count, sums, back))
