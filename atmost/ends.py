"""The highest heights under a top, and the lowest over a bottom."""

from atmost.errors import BadNumber, Broken
from atmost.sayings import check_sayings, is_whole
from atmost.walks import least_sums, level, walking_order


def check_end(count, sayings, end):
    check_sayings(count, sayings)
    if not is_whole(end):
        raise BadNumber("the top or bottom is no whole number")


# A chain's sum is the most by which its last place is above its first, and that one is no higher than the top: no
# place can be higher than the least sum of the chains to it allows.
def highest(count, sayings, top):
    check_end(count, sayings, top)
    return [top + height for height in level(count, least_sums(sayings, walking_order(sayings)))]


# Seen from above, the upper place is the lower one, and the lowest heights are the highest ones.
def lowest(count, sayings, bottom):
    check_end(count, sayings, bottom)
    turned = [(saying[1], saying[0], saying[2]) for saying in sayings]
    try:
        sums = least_sums(turned, walking_order(turned))
    except Broken as broken:
        raise Broken(list(reversed(broken.ring))) from None
    return [bottom - depth for depth in level(count, sums)]
