"""Webs to test with, and plain checks that use nothing of the program but its values."""

from itertools import combinations
from random import Random


def web_by(size, knows):
    """A web of so many people; knows(a, b) is asked for a below b."""
    return ["".join("x" if one != other and knows(min(one, other), max(one, other)) else "-"
                    for other in range(size)) for one in range(size)]


def chance_web(size, part, seed):
    """A web in which about so many parts of a hundred of the pairs know one another."""
    chance = Random(seed)
    pairs = {pair for pair in combinations(range(size), 2) if chance.random() * 100 < part}
    return web_by(size, lambda one, other: (one, other) in pairs)


def all_webs(size):
    """Each web of so many people."""
    pairs = list(combinations(range(size), 2))
    for number in range(1 << len(pairs)):
        known = {pair for at, pair in enumerate(pairs) if number >> at & 1}
        yield web_by(size, lambda one, other: (one, other) in known)


def small_webs():
    """Each web of up to five people."""
    for size in range(6):
        yield from all_webs(size)


def turned_plainly(web):
    return web_by(len(web), lambda one, other: web[one][other] == "-")


def ring(size):
    """Each knows the one before and the one behind; of five, no three are alike."""
    return web_by(size, lambda one, other: other - one in (1, size - 1))


def star(size):
    """The first knows all others, who know nobody else."""
    return web_by(size, lambda one, other: one == 0)


def star_behind(size):
    """The last knows all others, who know nobody else."""
    return web_by(size, lambda one, other: other == size - 1)


def parties(size, many):
    """So many parties, within each of which all know one another."""
    return web_by(size, lambda one, other: one % many == other % many)


def squares(size):
    """Of a prime, 1 more than a multiple of 4: they know one another at distances that are squares."""
    roots = {place * place % size for place in range(1, size)}
    return web_by(size, lambda one, other: (other - one) % size in roots)


def sample_webs(size):
    """Webs of so many people, of which they know nobody, few, half, most or all others."""
    webs = [web_by(size, lambda one, other: False), ring(size), star(size), star_behind(size)]
    webs += [parties(size, many) for many in (2, 3, 7, 14)]
    webs += [chance_web(size, part, size + part) for part in (2, 10, 30, 50, 75, 97)]
    webs.append(web_by(size, lambda one, other: one + other < size))
    return webs + [turned_plainly(web) for web in webs]


def all_know(web, people):
    return all(web[one][other] == "x" for one, other in combinations(people, 2))


def none_knows(web, people):
    return all(web[one][other] == "-" for one, other in combinations(people, 2))


def rising(people, size):
    """Whether these are a list of plain whole numbers below size, each above the one before."""
    return (type(people) is list and all(type(one) is int for one in people)
            and people == sorted(set(people)) and all(0 <= one < size for one in people))


class Text(str):
    """A text of a class of its own."""


def no_webs():
    """What is no web, each by a name that says why."""
    one_way = ["-x-", "--x", "-x-"]
    return {
        "None": None, "a number": 3, "a text": "-", "nothing written": "", "a tuple": ("-x", "x-"),
        "an empty tuple": (), "a dict": {}, "a dict of rows": {"-": 0}, "a set": {"-"},
        "bytes": b"-", "True": True, "a generator": (row for row in ["-"]), "a class": list,
        "a row of bytes": [b"-"], "a row of bytes among texts": ["-x", b"x-"], "a row None": [None],
        "a row of a number": [0], "a row that is a list": [["-", "x"], ["x", "-"]],
        "a row that is a tuple": [("-",)], "the last row no text": ["--", 1],
        "an empty row": [""], "rows too short": ["-", "-"], "rows too long": ["--"],
        "one row too short": ["---", "--", "---"], "one row too long": ["---", "---", "----"],
        "fewer rows than signs": ["-x-", "x--"], "more rows than signs": ["-x", "x-", "--"],
        "a great X": ["-X", "X-"], "an o": ["-o", "o-"], "a blank": ["- ", " -"], "a plus": ["+"],
        "a line's end": ["-\n", "\n-"], "a blank of its own": [" "], "a dash that is none": ["\u2212"],
        "an x that is none": ["-\u0445", "\u0445-"], "half a sign": ["-\ud800", "\ud800-"],
        "one knows itself": ["x"], "the first knows itself": ["x-", "--"],
        "the last knows itself": ["-x-", "x--", "--x"], "all know themselves": ["xx", "xx"],
        "not known back": ["-x", "--"], "known, not knowing": ["--", "x-"], "one way round": one_way,
        "not known back, as many each": ["-x-", "--x", "x--"],
        "not known back at the end": ["-" * 200] * 198 + ["-" * 199 + "x", "-" * 200],
        "201 people": ["-" * 201] * 201, "201 people who know one another": turned_plainly(["-" * 201] * 201),
        "300 people": ["-" * 300] * 300, "201 rows that are none": [None] * 201,
    }


def no_numbers():
    """What is no whole number."""
    return [None, True, False, 1.0, 6.0, 0.5, float("inf"), float("nan"), "1", "", b"1", [], [1], (1,),
            {}, {1}, 1j, int, object()]
