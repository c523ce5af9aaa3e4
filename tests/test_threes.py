"""Points 2 and 3: threes that are alike."""

import unittest
from itertools import combinations

from allknown.answers import Known, Unknown
from allknown.errors import BadCount, WebError
from allknown.threes import alike, fewest, three, web_of
from allknown.webs import turned
from tests import helper

FEWEST = [0, 0, 0, 0, 0, 0, 2, 4, 8, 12, 20, 28, 40, 52, 70, 88, 112, 136, 168, 200, 240, 280, 330]


def alike_plainly(web):
    """How many threes are alike, asked one by one."""
    return len([1 for one, two, other in combinations(range(len(web)), 3)
                if web[one][two] == web[one][other] == web[two][other]])


class AlikeTest(unittest.TestCase):
    def check(self, web, many):
        told = alike(web)
        self.assertIs(type(told), int)
        self.assertEqual(told, many, web)

    def test_few_people(self):
        self.check([], 0)
        self.check(["-"], 0)
        self.check(["--", "--"], 0)
        self.check(["-x", "x-"], 0)
        self.check(["---", "---", "---"], 1)
        self.check(["-xx", "x-x", "xx-"], 1)
        self.check(["-x-", "x--", "---"], 0)
        self.check(["-xx", "x--", "x--"], 0)
        self.check(helper.ring(5), 0)

    def test_every_small_web(self):
        for web in helper.small_webs():
            self.check(web, alike_plainly(web))

    def test_ordinary_webs(self):
        for size in (6, 7, 20, 31):
            for web in helper.sample_webs(size):
                self.check(web, alike_plainly(web))

    def test_many_people(self):
        self.check(["-" * 200] * 200, 1313400)
        self.check(helper.turned_plainly(["-" * 200] * 200), 1313400)
        self.check(helper.parties(200, 2), 2 * 161700)
        self.check(helper.turned_plainly(helper.parties(200, 2)), 2 * 161700)
        self.check(helper.star(200), 1293699)
        web = helper.chance_web(200, 30, 5)
        self.check(web, alike_plainly(web))
        self.check(turned(web), alike(web))


class ThreeTest(unittest.TestCase):
    def check(self, web):
        answer = three(web)
        if answer is None:
            self.assertEqual(alike_plainly(web), 0, web)
            return
        self.assertTrue(helper.rising(answer.people, len(web)), answer.people)
        self.assertEqual(len(answer.people), 3)
        if type(answer) is Known:
            self.assertTrue(helper.all_know(web, answer.people))
        else:
            self.assertIs(type(answer), Unknown)
            self.assertTrue(helper.none_knows(web, answer.people))
        self.assertIs(answer.shows(web), True)

    def test_none(self):
        for web in ([], ["-"], ["--", "--"], ["-x", "x-"], ["-x-", "x--", "---"], helper.ring(5)):
            self.assertIsNone(three(web))
        self.assertIsNone(three(turned(helper.ring(5))))

    def test_just_three(self):
        self.assertEqual(three(["---", "---", "---"]).people, [0, 1, 2])
        self.assertIsInstance(three(["---", "---", "---"]), Unknown)
        self.assertEqual(three(["-xx", "x-x", "xx-"]).people, [0, 1, 2])
        self.assertIsInstance(three(["-xx", "x-x", "xx-"]), Known)

    def test_every_small_web(self):
        for web in helper.small_webs():
            self.check(web)

    def test_of_six_people_there_always_are(self):
        for web in helper.all_webs(6):
            self.assertIsNotNone(three(web))

    def test_ordinary_webs_and_many_people(self):
        for size in (6, 7, 20, 200):
            for web in helper.sample_webs(size):
                self.assertIsNotNone(three(web))
                self.check(web)

    def test_webs_with_no_more_threes_than_must_be(self):
        for size in list(range(60)) + [199, 200]:
            self.check(web_of(size))
            self.check(turned(web_of(size)))


class FewestTest(unittest.TestCase):
    def test_known_numbers(self):
        self.assertEqual([fewest(size) for size in range(len(FEWEST))], FEWEST)

    def test_no_small_web_has_fewer_and_one_has_no_more(self):
        for size in range(7):
            self.assertEqual(fewest(size), min(alike(web) for web in helper.all_webs(size)))

    def test_no_ordinary_web_has_fewer(self):
        for size in (9, 40, 41, 42, 43, 200):
            for web in helper.sample_webs(size):
                self.assertLessEqual(fewest(size), alike(web))

    def test_of_each_kind_of_count(self):
        # The three forms that are known of old: of 2u, of 4u + 1 and of 4u + 3 people.
        for u in list(range(1, 300)) + [10 ** 50, 10 ** 900 + 7, 10 ** 20000 + 1]:
            self.assertEqual(fewest(2 * u) * 3, u * (u - 1) * (u - 2))
            self.assertEqual(fewest(4 * u + 1) * 3, 2 * u * (u - 1) * (4 * u + 1))
            self.assertEqual(fewest(4 * u + 3) * 3, 2 * u * (u + 1) * (4 * u - 1))

    def test_a_whole_number_is_told(self):
        for size in (0, 1, 2, 3, 6, 200, 201, 10 ** 30):
            self.assertIs(type(fewest(size)), int)

    def test_what_is_no_count_is_refused(self):
        for size in helper.no_numbers() + [-1, -2, -6, -200, -10 ** 5000]:
            with self.assertRaises(WebError) as caught:
                fewest(size)
            self.assertIs(type(caught.exception), BadCount, repr(type(size)))


class WebOfTest(unittest.TestCase):
    def test_every_size_has_no_more_than_must_be(self):
        for size in range(201):
            web = web_of(size)
            self.assertIs(type(web), list)
            self.assertEqual(len(web), size)
            self.assertEqual(alike(web), fewest(size))

    def test_counted_one_by_one(self):
        for size in range(len(FEWEST)):
            self.assertEqual(alike_plainly(web_of(size)), FEWEST[size])

    def test_few_people(self):
        self.assertEqual(web_of(0), [])
        self.assertEqual(web_of(1), ["-"])
        self.assertIn(web_of(2), (["--", "--"], ["-x", "x-"]))

    def test_a_web_is_new(self):
        for size in (0, 1, 5, 6, 200):
            web = web_of(size)
            before = list(web)
            web.append("-")
            web[0] = "x"
            self.assertEqual(web_of(size), before)

    def test_what_is_no_count_is_refused(self):
        for size in helper.no_numbers() + [-1, -200, 201, 202, 400, 10 ** 5000, -10 ** 5000]:
            with self.assertRaises(WebError) as caught:
                web_of(size)
            self.assertIs(type(caught.exception), BadCount, repr(type(size)))


if __name__ == "__main__":
    unittest.main()
