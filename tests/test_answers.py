"""Point 4: answers, made by hand."""

import unittest
from itertools import product

from allknown.answers import Answer, Known, Unknown
from tests import helper

# 0, 1 and 2 all know one another, 3 knows 2; none of 0, 3 and 4 knows another one.
WEB = ["-xx--", "x-x--", "xx-x-", "--x--", "-----"]


class FieldsTest(unittest.TestCase):
    def test_an_answer_has_its_people(self):
        for kind in (Known, Unknown):
            answer = kind([0, 2])
            self.assertIsInstance(answer, Answer)
            self.assertEqual(answer.people, [0, 2])
            self.assertEqual(kind(people=[1]).people, [1])
            self.assertEqual(kind([]).people, [])
            self.assertEqual(kind([5, -3, 5]).people, [5, -3, 5])

    def test_known_and_unknown_are_two_kinds(self):
        self.assertNotIsInstance(Known([]), Unknown)
        self.assertNotIsInstance(Unknown([]), Known)

    def test_the_list_is_a_copy(self):
        for kind in (Known, Unknown):
            people = [0, 1]
            answer = kind(people)
            self.assertIsNot(answer.people, people)
            people.append(2)
            self.assertEqual(answer.people, [0, 1])
            answer.people.append(4)
            self.assertEqual(people, [0, 1, 2])
            self.assertEqual(kind([0, 1]).people, [0, 1])

    def test_answers_share_no_list(self):
        people = [0, 1]
        first, second = Known(people), Unknown(people)
        first.people.clear()
        self.assertEqual(second.people, [0, 1])


class ShowsTest(unittest.TestCase):
    def check(self, kind, people, web, right):
        answer = kind(people)
        self.assertIs(answer.shows(web), right, (kind.__name__, people, web))
        self.assertEqual(answer.people, people)

    def test_right_ones(self):
        for people in ([], [0], [4], [0, 1], [2, 3], [0, 2], [0, 1, 2]):
            self.check(Known, people, WEB, True)
        for people in ([], [2], [4], [0, 3], [0, 4], [3, 4], [0, 3, 4], [1, 3, 4], [2, 4]):
            self.check(Unknown, people, WEB, True)

    def test_one_missing_is_shown_all_the_same(self):
        self.check(Known, [0, 2], WEB, True)
        self.check(Unknown, [0, 4], WEB, True)

    def test_one_more(self):
        for people in ([0, 1, 2, 3], [0, 1, 2, 4], [2, 3, 4], [0, 3], [0, 1, 3]):
            self.check(Known, people, WEB, False)
        for people in ([0, 1, 3, 4], [0, 2, 3, 4], [2, 3, 4], [0, 1], [2, 3]):
            self.check(Unknown, people, WEB, False)

    def test_one_twice(self):
        for kind in (Known, Unknown):
            for people in ([0, 0], [4, 4], [0, 0, 1], [0, 3, 3], [0, 1, 1], [0, 3, 4, 4]):
                self.check(kind, people, WEB, False)

    def test_not_rising(self):
        for people in ([1, 0], [2, 1, 0], [0, 2, 1], [1, 0, 2], [3, 2]):
            self.check(Known, people, WEB, False)
        for people in ([3, 0], [4, 3, 0], [0, 4, 3], [3, 0, 4]):
            self.check(Unknown, people, WEB, False)

    def test_below_nobody_or_beyond_the_web(self):
        far = 10 ** 5000
        for kind in (Known, Unknown):
            for people in ([-1], [-5], [-1, 0], [-2, 0], [-5, -4], [5], [0, 5], [4, 5], [200], [far], [-far], [0, far]):
                self.check(kind, people, WEB, False)
                self.check(kind, people, helper.turned_plainly(WEB), False)

    def test_truths_are_no_numbers(self):
        for kind in (Known, Unknown):
            for people in ([True], [False], [False, 3], [False, True], [0, True]):
                self.check(kind, people, WEB, False)

    def test_nobody_one_and_two(self):
        for kind in (Known, Unknown):
            self.check(kind, [], [], True)
            self.check(kind, [0], [], False)
            self.check(kind, [-1], [], False)
            self.check(kind, [], ["-"], True)
            self.check(kind, [0], ["-"], True)
            self.check(kind, [1], ["-"], False)
            self.check(kind, [0, 0], ["-"], False)
        self.check(Known, [0, 1], ["-x", "x-"], True)
        self.check(Unknown, [0, 1], ["-x", "x-"], False)
        self.check(Known, [0, 1], ["--", "--"], False)
        self.check(Unknown, [0, 1], ["--", "--"], True)

    def test_every_short_list_in_every_web_of_three(self):
        for web in helper.all_webs(3):
            for many in range(5):
                for people in map(list, product(range(-1, 4), repeat=many)):
                    fits = helper.rising(people, 3)
                    self.check(Known, people, web, fits and helper.all_know(web, people))
                    self.check(Unknown, people, web, fits and helper.none_knows(web, people))

    def test_the_fields_as_they_stand_then(self):
        answer = Known([0, 1])
        answer.people.append(2)
        self.assertIs(answer.shows(WEB), True)
        answer.people.append(3)
        self.assertIs(answer.shows(WEB), False)
        answer.people = [2, 3]
        self.assertIs(answer.shows(WEB), True)
        other = Unknown([0, 1])
        self.assertIs(other.shows(WEB), False)
        other.people[1] = 3
        self.assertIs(other.shows(WEB), True)
        other.people = [3, 0]
        self.assertIs(other.shows(WEB), False)

    def test_one_answer_in_several_webs(self):
        answer = Known([0, 1])
        self.assertIs(answer.shows(["-x", "x-"]), True)
        self.assertIs(answer.shows(["--", "--"]), False)
        self.assertIs(answer.shows(["-"]), False)

    def test_the_web_stays_as_it_was(self):
        web = list(WEB)
        Known([0, 1, 3]).shows(web)
        Unknown([0, 3]).shows(web)
        self.assertEqual(web, WEB)

    def test_many_people(self):
        nobody = ["-" * 200] * 200
        everybody = helper.turned_plainly(nobody)
        people = list(range(200))
        self.check(Known, people, everybody, True)
        self.check(Unknown, people, everybody, False)
        self.check(Unknown, people, nobody, True)
        self.check(Known, people, nobody, False)
        self.check(Known, people + [200], everybody, False)
        self.check(Unknown, people + [199], nobody, False)
        self.check(Known, list(range(100000)), everybody, False)
        last = [row[:199] + "-" for row in everybody[:198]] + ["x" * 198 + "--", "-" * 200]
        self.check(Known, list(range(199)), last, True)
        self.check(Known, people, last, False)
        self.check(Unknown, [198, 199], last, True)


if __name__ == "__main__":
    unittest.main()
