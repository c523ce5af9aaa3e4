"""Points 4 and 5: as many as must be."""

import unittest
from fractions import Fraction
from math import gcd

from allknown.answers import Known, Unknown
from allknown.errors import BadCount, BadWeb, TooFew, WebError
from allknown.groups import found, friends, promised, strangers, sure
from allknown.webs import turned
from tests import helper

BAD_SIZES = helper.no_numbers() + [0, -1, -200, 201, 202, 10 ** 5000, -10 ** 5000]
# Sizes for which at most 200 people are enough, with how many these are.
ENOUGH = {(1, 1): 1, (1, 2): 1, (2, 1): 1, (1, 200): 1, (200, 1): 1, (2, 2): 2, (2, 3): 3, (3, 2): 3,
          (3, 3): 6, (3, 4): 10, (4, 3): 10, (4, 4): 20, (3, 7): 28, (4, 5): 35, (5, 4): 35, (5, 5): 70,
          (4, 9): 165, (9, 4): 165, (5, 6): 126, (6, 5): 126, (3, 19): 190, (19, 3): 190,
          (2, 199): 199, (199, 2): 199, (2, 200): 200, (200, 2): 200}


def ways(few, many):
    """How many ways there are to pick so few of so many, row by row."""
    row = [1]
    for _ in range(many):
        row = [1] + [left + right for left, right in zip(row, row[1:])] + [1]
    return row[few]


def promise_plainly(web):
    return sum((Fraction(1, row.count("x") + 1) for row in web), Fraction(0))


class SureTest(unittest.TestCase):
    def test_how_many_are_enough(self):
        for (known, unknown), many in ENOUGH.items():
            self.assertEqual(sure(known, unknown), many)

    def test_sizes_of_all_kinds(self):
        sizes = [1, 2, 3, 4, 7, 50, 199, 200]
        for known in sizes:
            for unknown in sizes:
                told = sure(known, unknown)
                self.assertIs(type(told), int)
                self.assertEqual(told, ways(known - 1, known + unknown - 2))

    def test_all_sizes_are_sums(self):
        for known in range(2, 201):
            for unknown in range(2, 201):
                self.assertEqual(sure(known, unknown), sure(known - 1, unknown) + sure(known, unknown - 1))
            self.assertEqual(sure(known, 1), 1)
            self.assertEqual(sure(1, known), 1)

    def test_what_is_no_size_is_refused(self):
        for size in BAD_SIZES:
            for pair in ((size, 3), (3, size), (size, size), (size, 1), (1, size), (200, size)):
                with self.assertRaises(WebError) as caught:
                    sure(*pair)
                self.assertIs(type(caught.exception), BadCount)


class FoundTest(unittest.TestCase):
    def check(self, web, known, unknown):
        answer = found(web, known, unknown)
        self.assertTrue(helper.rising(answer.people, len(web)), answer.people)
        if type(answer) is Known:
            self.assertEqual(len(answer.people), known)
            self.assertTrue(helper.all_know(web, answer.people))
        else:
            self.assertIs(type(answer), Unknown)
            self.assertEqual(len(answer.people), unknown)
            self.assertTrue(helper.none_knows(web, answer.people))
        self.assertIs(answer.shows(web), True)

    def test_every_web_of_six(self):
        for web in helper.all_webs(6):
            self.check(web, 3, 3)

    def test_every_small_web(self):
        for web in helper.small_webs():
            for known, unknown in ((1, 1), (1, 3), (3, 1), (2, 2), (2, 3), (3, 2), (2, 5), (5, 2)):
                if len(web) >= sure(known, unknown):
                    self.check(web, known, unknown)

    def test_just_enough(self):
        for (known, unknown), many in ENOUGH.items():
            for web in helper.sample_webs(many):
                with self.subTest(known=known, unknown=unknown):
                    self.check(web, known, unknown)

    def test_more_than_enough(self):
        webs = helper.sample_webs(200)
        for known, unknown in ENOUGH:
            for web in webs:
                with self.subTest(known=known, unknown=unknown):
                    self.check(web, known, unknown)

    def test_webs_with_hardly_any(self):
        # Parties are too small for a Known, or else too few for an Unknown; a web of squares
        # has few of either.
        for (known, unknown), many in ENOUGH.items():
            for inner in (1, 2, 3, 4, max(1, known - 1)):
                parties = helper.web_by(many, lambda one, other: one // inner == other // inner)
                self.check(parties, known, unknown)
                self.check(turned(parties), known, unknown)
        for size in (5, 13, 17, 29, 37, 101, 197):
            web = helper.squares(size)
            for known, unknown in ENOUGH:
                if sure(known, unknown) <= size:
                    self.check(web, known, unknown)

    def test_one_person(self):
        answer = found(["-"], 1, 1)
        self.assertEqual(answer.people, [0])
        answer = found(["-"], 200, 1)
        self.assertEqual((type(answer), answer.people), (Unknown, [0]))
        answer = found(["-"], 1, 200)
        self.assertEqual((type(answer), answer.people), (Known, [0]))

    def test_sizes_one_and_two_hundred(self):
        nobody = ["-" * 200] * 200
        for size in (200, 199):
            answer = found(nobody, 2, size)
            self.assertEqual((type(answer), len(answer.people)), (Unknown, size))
            answer = found(turned(nobody), size, 2)
            self.assertEqual((type(answer), len(answer.people)), (Known, size))
        answer = found(nobody, 200, 2)
        self.assertEqual((type(answer), len(answer.people)), (Unknown, 2))

    def test_one_person_fewer_is_too_few(self):
        for (known, unknown), many in ENOUGH.items():
            for web in helper.sample_webs(many - 1) if many < 100 else [["-" * (many - 1)] * (many - 1)]:
                with self.assertRaises(WebError) as caught:
                    found(web, known, unknown)
                self.assertIs(type(caught.exception), TooFew)

    def test_too_few_for_great_sizes(self):
        web = ["-" * 200] * 200
        for known, unknown in ((200, 200), (3, 200), (200, 3), (6, 6), (4, 10), (3, 20), (100, 100)):
            self.assertRaises(TooFew, found, web, known, unknown)

    def test_what_is_no_size_is_refused(self):
        for web in ([], ["-"], helper.ring(5), ["-" * 200] * 200):
            for size in BAD_SIZES:
                for pair in ((size, 3), (3, size), (size, size), (200, size)):
                    with self.assertRaises(WebError) as caught:
                        found(web, *pair)
                    self.assertIs(type(caught.exception), BadCount)

    def test_which_refusal_goes_first(self):
        for why, web in helper.no_webs().items():
            for known, unknown in ((1, 1), (0, 1), (1, 0), (201, 201), (None, 3), (True, True), (200, 200)):
                with self.assertRaises(WebError, msg=why) as caught:
                    found(web, known, unknown)
                self.assertIs(type(caught.exception), BadWeb, why)
        self.assertRaises(BadCount, found, [], 0, 1)
        self.assertRaises(BadCount, found, [], 1, True)
        self.assertRaises(BadCount, found, [], 200, 201)
        self.assertRaises(TooFew, found, [], 1, 1)
        self.assertRaises(TooFew, found, [], 200, 200)


class PromisedTest(unittest.TestCase):
    def check(self, web, pair=None):
        told = promised(web)
        self.assertIs(type(told), tuple)
        self.assertEqual([type(number) for number in told], [int, int])
        above, below = told
        self.assertGreater(below, 0)
        self.assertEqual(gcd(above, below), 1)
        self.assertEqual(Fraction(above, below), promise_plainly(web))
        if pair is not None:
            self.assertEqual(told, pair)

    def test_few_people(self):
        self.check([], (0, 1))
        self.check(["-"], (1, 1))
        self.check(["--", "--"], (2, 1))
        self.check(["-x", "x-"], (1, 1))
        self.check(["-x-", "x-x", "-x-"], (4, 3))
        self.check(["-x--", "x-x-", "-x-x", "--x-"], (5, 3))
        self.check(helper.ring(5), (5, 3))
        self.check(helper.ring(6), (2, 1))
        self.check(helper.star(7), (22, 7))

    def test_every_small_web(self):
        for web in helper.small_webs():
            self.check(web)

    def test_many_people(self):
        self.check(["-" * 200] * 200, (200, 1))
        self.check(turned(["-" * 200] * 200), (1, 1))
        self.check(helper.star(200), (19901, 200))
        self.check(helper.ring(200), (200, 3))
        for web in helper.sample_webs(50) + helper.sample_webs(200):
            self.check(web)


class PeopleTest(unittest.TestCase):
    def check(self, web):
        answer = strangers(web)
        self.assertIs(type(answer), Unknown)
        self.assertTrue(helper.rising(answer.people, len(web)), answer.people)
        self.assertTrue(helper.none_knows(web, answer.people), web)
        self.assertGreaterEqual(len(answer.people), promise_plainly(web), web)
        self.assertIs(answer.shows(web), True)
        answer = friends(web)
        self.assertIs(type(answer), Known)
        self.assertTrue(helper.rising(answer.people, len(web)), answer.people)
        self.assertTrue(helper.all_know(web, answer.people), web)
        self.assertGreaterEqual(len(answer.people), promise_plainly(helper.turned_plainly(web)), web)
        self.assertIs(answer.shows(web), True)

    def test_few_people(self):
        self.assertEqual(strangers([]).people, [])
        self.assertEqual(friends([]).people, [])
        self.assertEqual(strangers(["-"]).people, [0])
        self.assertEqual(friends(["-"]).people, [0])
        self.assertEqual(strangers(["--", "--"]).people, [0, 1])
        self.assertEqual(len(friends(["--", "--"]).people), 1)
        self.assertEqual(len(strangers(["-x", "x-"]).people), 1)
        self.assertEqual(friends(["-x", "x-"]).people, [0, 1])
        self.assertEqual(strangers(["-x-", "x-x", "-x-"]).people, [0, 2])

    def test_those_who_know_many_are_left_out(self):
        for size in (5, 50, 200):
            self.assertEqual(strangers(helper.star(size)).people, list(range(1, size)))
            self.assertEqual(strangers(helper.star_behind(size)).people, list(range(size - 1)))
            self.assertEqual(friends(turned(helper.star(size))).people, list(range(1, size)))
            self.assertEqual(friends(turned(helper.star_behind(size))).people, list(range(size - 1)))

    def test_every_web_of_up_to_six(self):
        for web in [*helper.small_webs(), *helper.all_webs(6)]:
            self.check(web)

    def test_ordinary_webs_and_many_people(self):
        for size in (7, 13, 40, 101, 200):
            for web in helper.sample_webs(size):
                self.check(web)

    def test_everybody_and_nobody(self):
        nobody = ["-" * 200] * 200
        self.assertEqual(strangers(nobody).people, list(range(200)))
        self.assertEqual(len(friends(nobody).people), 1)
        self.assertEqual(friends(turned(nobody)).people, list(range(200)))
        self.assertEqual(len(strangers(turned(nobody)).people), 1)


if __name__ == "__main__":
    unittest.main()
