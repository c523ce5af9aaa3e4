"""Webs: lists of rows of signs that tell who knows whom."""

from allknown.errors import BadWeb

KNOWS = "x"
APART = "-"
MOST_PEOPLE = 200


def check_web(web):
    """Raise BadWeb unless this is a web."""
    if not isinstance(web, list):
        raise BadWeb("a web is a list of rows")
    if len(web) > MOST_PEOPLE:
        raise BadWeb(f"a web has at most {MOST_PEOPLE} people")
    for place, row in enumerate(web):
        _check_row(row, place, len(web))
    columns = ["".join(column) for column in zip(*web)]
    if columns != web:
        raise BadWeb("who knows another one is known by that one")


def _check_row(row, place, size):
    """Raise BadWeb unless the row can stand at this place in a web of so many people."""
    if not isinstance(row, str):
        raise BadWeb(f"row {place} is no text")
    if len(row) != size:
        raise BadWeb(f"row {place} has not one sign for each of the people")
    if row.count(KNOWS) + row.count(APART) != len(row):
        raise BadWeb(f"row {place} has a sign that is neither {KNOWS} nor {APART}")
    if row[place] == KNOWS:
        raise BadWeb(f"row {place} tells somebody to know itself")


def ties(web):
    """How many each of the people knows."""
    check_web(web)
    return [row.count(KNOWS) for row in web]


def turned(web):
    """The web of who don't know one another in this one."""
    check_web(web)
    return [_turned_row(row, place) for place, row in enumerate(web)]


def _turned_row(row, place):
    """The row turned; at its own place nobody is told to know itself."""
    return "".join(KNOWS if sign == APART and at != place else APART for at, sign in enumerate(row))
