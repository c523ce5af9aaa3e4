"""People who all know one another, or none of whom does, as many as there must be."""

from math import comb, gcd

from allknown.answers import Known, Unknown
from allknown.counts import check_count
from allknown.errors import TooFew
from allknown.webs import KNOWS, check_web, ties, turned

MOST_SIZE = 200


def sure(known, unknown):
    """How many people are enough for these two sizes."""
    check_count(known, 1, MOST_SIZE)
    check_count(unknown, 1, MOST_SIZE)
    return comb(known + unknown - 2, known - 1)


def found(web, known, unknown):
    """A Known of the known size, or an Unknown of the unknown one."""
    check_web(web)
    if len(web) < sure(known, unknown):
        raise TooFew("the web has fewer people than are enough for these sizes")
    left = list(range(len(web)))
    inside = []
    outside = []
    # All of inside know one another and all that are left; of outside none knows
    # another one or any that is left. What is enough for both sizes is the sum of what
    # is enough with either size one fewer: so of those left but one, either enough are
    # known by that one for the one, or enough aren't for the other.
    while known > 1 and unknown > 1:
        person = left[0]
        near = [other for other in left[1:] if web[person][other] == KNOWS]
        if len(near) >= sure(known - 1, unknown):
            inside.append(person)
            left = near
            known -= 1
        else:
            outside.append(person)
            left = [other for other in left[1:] if web[person][other] != KNOWS]
            unknown -= 1
    return Known(inside + left[:1]) if known == 1 else Unknown(outside + left[:1])


def promised(web):
    """The promise of the web: a pair of whole numbers in lowest terms."""
    above = 0
    below = 1
    for many in ties(web):
        above = above * (many + 1) + below
        below = below * (many + 1)
    shared = gcd(above, below)
    return above // shared, below // shared


def strangers(web):
    """People of whom none knows another one, no fewer than the promise of the web."""
    return Unknown(_apart(web))


def friends(web):
    """People who all know one another, no fewer than the promise of the web turned."""
    return Known(_apart(turned(web)))


def _apart(web):
    """People, rising, of whom none knows another one, no fewer than the promise."""
    counts = ties(web)
    chosen = []
    # Who isn't chosen knows one chosen before who knows no more people. So the fractions
    # of somebody chosen and of all that it leaves out are together at most 1.
    for person in sorted(range(len(web)), key=lambda place: counts[place]):
        if all(web[person][other] != KNOWS for other in chosen):
            chosen.append(person)
    return sorted(chosen)
