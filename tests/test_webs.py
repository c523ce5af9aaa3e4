"""Point 1: how many each knows, and a web turned."""

import unittest

from allknown.webs import ties, turned
from tests import helper


class TiesTest(unittest.TestCase):
    def test_few_people(self):
        self.assertEqual(ties([]), [])
        self.assertEqual(ties(["-"]), [0])
        self.assertEqual(ties(["--", "--"]), [0, 0])
        self.assertEqual(ties(["-x", "x-"]), [1, 1])
        self.assertEqual(ties(["-x-", "x-x", "-x-"]), [1, 2, 1])
        self.assertEqual(ties(helper.star(6)), [5, 1, 1, 1, 1, 1])

    def test_all_small_webs_and_many_people(self):
        for web in [*helper.small_webs(), *helper.sample_webs(61), *helper.sample_webs(200)]:
            counts = ties(web)
            self.assertEqual(counts, [len([sign for sign in row if sign == "x"]) for row in web])
            self.assertIs(type(counts), list)
            self.assertTrue(all(type(many) is int for many in counts))

    def test_people_of_the_same_row_count_alone(self):
        self.assertEqual(ties(["-" * 200] * 200), [0] * 200)


class TurnedTest(unittest.TestCase):
    def test_few_people(self):
        self.assertEqual(turned([]), [])
        self.assertEqual(turned(["-"]), ["-"])
        self.assertEqual(turned(["--", "--"]), ["-x", "x-"])
        self.assertEqual(turned(["-x", "x-"]), ["--", "--"])
        self.assertEqual(turned(["-x-", "x-x", "-x-"]), ["--x", "---", "x--"])

    def test_all_small_webs_and_many_people(self):
        for web in [*helper.small_webs(), *helper.sample_webs(61), *helper.sample_webs(200)]:
            other = turned(web)
            self.assertEqual(other, helper.turned_plainly(web))
            self.assertIs(type(other), list)
            self.assertTrue(all(type(row) is str for row in other))
            self.assertEqual(turned(other), web)

    def test_a_turned_web_is_new(self):
        for web in ([], ["-"], helper.ring(5)):
            other = turned(web)
            self.assertIsNot(other, web)
            other.append("-")
            self.assertEqual(len(turned(web)), len(web))


if __name__ == "__main__":
    unittest.main()
