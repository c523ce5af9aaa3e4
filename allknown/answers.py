"""Answers: people who all know one another, or of whom none knows another one."""

from itertools import combinations

from allknown.counts import is_whole
from allknown.webs import APART, KNOWS


class Answer:
    """Some people of a web who are told together."""


class Known(Answer):
    """People who all know one another."""

    def __init__(self, people):
        self.people = list(people)

    def shows(self, web):
        """Whether these are people of the web, rising, who all know one another."""
        return _are_places(self.people, len(web)) and _all_pairs(self.people, web, KNOWS)


class Unknown(Answer):
    """People of whom none knows another one."""

    def __init__(self, people):
        self.people = list(people)

    def shows(self, web):
        """Whether these are people of the web, rising, of whom none knows another one."""
        return _are_places(self.people, len(web)) and _all_pairs(self.people, web, APART)


def _are_places(people, size):
    """Whether these are counts of people from 0 to below size, rising, none twice."""
    last = -1
    for person in people:
        if not is_whole(person) or not last < person < size:
            return False
        last = person
    return True


def _all_pairs(people, web, sign):
    """Whether the web has this sign for each two of the people."""
    for one, other in combinations(people, 2):
        if web[one][other] != sign:
            return False
    return True
