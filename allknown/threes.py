"""Threes that are alike: all three know one another, or none knows another one."""

from itertools import combinations

from allknown.answers import Known, Unknown
from allknown.counts import check_count
from allknown.webs import APART, KNOWS, MOST_PEOPLE, check_web, ties

ENOUGH_FOR_THREE = 6


def alike(web):
    """How many threes of the web are alike."""
    # A three that isn't alike has just two people who know one of the other two
    # and don't know the other. So such people, counted over all threes, are twice
    # the threes that aren't alike.
    counts = ties(web)
    size = len(counts)
    mixed = sum(many * (size - 1 - many) for many in counts)
    return _all_threes(size) - mixed // 2


def three(web):
    """Three people who are alike, as a Known or an Unknown; None if there are none."""
    check_web(web)
    # Of any six people three are alike, so nobody beyond these need be asked.
    asked = list(range(min(len(web), ENOUGH_FOR_THREE)))
    for one, two, other in combinations(asked, 3):
        sign = web[one][two]
        if sign == web[one][other] == web[two][other]:
            return Known([one, two, other]) if sign == KNOWS else Unknown([one, two, other])
    return None


def fewest(size):
    """The fewest threes that are alike in any web of so many people."""
    check_count(size, 0)
    # A person is in the most threes that aren't alike, as one who knows one of the
    # other two, where it knows half of the others; each such three has two of them.
    mixed = size * ((size - 1) * (size - 1) // 4)
    return _all_threes(size) - mixed // 2


def _all_threes(size):
    """How many threes there are of so many people."""
    return size * (size - 1) * (size - 2) // 6


def web_of(size):
    """A web of so many people with the fewest threes that are alike."""
    check_count(size, 0, MOST_PEOPLE)
    return [_ring_row(place, size) for place in range(size)]


def _ring_row(place, size):
    """The row of one of the people who stand in a ring."""
    return "".join(KNOWS if _know_in_ring(place, other, size) else APART for other in range(size))


def _know_in_ring(one, other, size):
    """Whether these two know one another, so that each knows as near half of the others as can be."""
    # Everyone knows the nearest on both sides, as many on each as a quarter of the
    # others allows. Where that leaves all of them one or more short of half, each also
    # knows the one half a ring on, counted without going round: of an odd ring one
    # person then knows one more than half, which costs no more than one fewer would.
    apart = abs(one - other)
    if 1 <= min(apart, size - apart) <= (size - 1) // 4:
        return True
    return size % 4 in (0, 3) and apart == size // 2
