"""Promise 1: a cord falls just as it's told, and one that's made for sets fits them."""

import itertools
import random
import unittest

from support import (all_cords, ask, ask_with, falls, fits, make, sets, slow_back, slow_falls,
                     slow_fits, slow_least_sets, slow_left, slow_made, slow_taut, some_cords, taut,
                     text_of, told_as)


def many_cords():
    """Pairs of n and a cord of n fingers."""
    found = [(1, cord) for cord in all_cords(1, 4)]
    found += [(2, cord) for cord in all_cords(2, 4)]
    found += [(3, cord) for cord in all_cords(3, 3)]
    for n in range(2, 7):
        found += [(n, cord) for cord in some_cords(n, 20, 12, n)]
        found += [(n, cord) for cord in some_cords(n, 5, 60, n + 10)]
    return found


def many_sets_told(n, how_many, seed):
    chance = random.Random(seed)
    for _ in range(how_many):
        size = chance.randint(1, min(12, 2 ** n - 1))
        yield chance.sample(range(1, 2 ** n), size)


class Taut(unittest.TestCase):
    def test_many_cords(self):
        for n, cords in ((1, all_cords(1, 7)), (2, all_cords(2, 5)), (3, all_cords(3, 3)),
                         (6, some_cords(6, 60, 40, 1))):
            cords = list(cords)
            for cord, answer in zip(cords, ask_with(n, [taut(cord) for cord in cords])):
                self.assertEqual(answer, told_as(slow_taut(cord)), cord)

    def test_a_cord_and_itself_turned_back(self):
        for n in range(1, 7):
            for cord in some_cords(n, 20, 50, 20 + n):
                self.assertEqual(ask_with(n, [taut(cord + slow_back(cord))]), [[0]])

    def test_what_is_taut_stays(self):
        self.assertEqual(ask(taut("abcABC"), taut("aabbcc"), taut("aBaB")),
                         [told_as("abcABC"), told_as("aabbcc"), told_as("aBaB")])


class Falls(unittest.TestCase):
    def test_just_if_what_is_left_pulls_taut_to_nothing(self):
        for n, cord in many_cords():
            every = range(2 ** n)
            fallen = ask_with(n, [falls(let_go, cord) for let_go in every])
            left = ask_with(n, [taut(slow_left(cord, let_go)) for let_go in every])
            for let_go in every:
                self.assertEqual(fallen[let_go], [0, 1 if left[let_go] == [0] else 0], (cord, let_go))
                self.assertEqual(fallen[let_go], [0, 1 if slow_falls(cord, let_go) else 0], (cord, let_go))

    def test_fingers_that_the_cord_does_not_touch(self):
        self.assertEqual(ask(falls(4, "abAB"), falls(5, "abAB"), falls(4, "aA")), [[0, 0], [0, 1], [0, 1]])

    def test_each_finger_by_its_number(self):
        for place, name in enumerate("abcdef"):
            for let_go in range(6):
                self.assertEqual(ask_with(6, [falls(2 ** let_go, name), falls(2 ** let_go, name.upper())]),
                                 [[0, 1 if let_go == place else 0]] * 2)


class LeastSets(unittest.TestCase):
    def test_just_the_least_ones_in_order(self):
        for n, cord in many_cords():
            self.assertEqual(ask_with(n, [sets(cord)]), [[0] + slow_least_sets(cord, n)], (n, cord))

    def test_of_cords_made(self):
        for n in range(1, 7):
            for told in many_sets_told(n, 25, n):
                cord = slow_made(told)
                self.assertEqual(ask_with(n, [sets(cord)]), [[0] + slow_least_sets(cord, n)], (n, told))

    def test_fewer_fingers_first(self):
        self.assertEqual(ask_with(4, [sets("adADbdBD"), sets("abABacACadAD")]), [[0, 8, 3], [0, 1, 14]])

    def test_of_as_many_by_their_numbers(self):
        self.assertEqual(ask_with(6, [sets("fF"), sets("a"), sets("ffe"), sets("cdCDabABefEF")]),
                         [[0, 0], [0, 1], [0, 48], [0, 21, 22, 25, 26, 37, 38, 41, 42]])
        made = ask_with(6, [make([63])])[0]
        self.assertEqual(ask_with(6, [sets(text_of(made))]), [[0, 1, 2, 4, 8, 16, 32]])


class Make(unittest.TestCase):
    def test_the_very_cord(self):
        self.assertEqual(ask(make([7])), [told_as("abABcbaBAC")])
        self.assertEqual(ask(make([5])), [told_as("acAC")])
        self.assertEqual(ask(make([4, 2, 1])), [told_as("cba")])
        self.assertEqual(ask(make([4]), make([6, 1])), [told_as("c"), told_as("bcBCa")])
        self.assertEqual(ask_with(6, [make([32]), make([48])]), [told_as("f"), told_as("efEF")])

    def test_parts_are_pulled_taut_together(self):
        self.assertEqual(ask_with(4, [make([7, 12])]), [told_as("abABcbaBA" + "dCD")])

    def test_as_the_document_tells(self):
        for n in range(1, 7):
            for told in many_sets_told(n, 40, 100 + n):
                self.assertEqual(ask_with(n, [make(told)]), [told_as(slow_made(told))], (n, told))

    def test_what_is_made_fits(self):
        tellings = [(n, list(told)) for n in (1, 2) for size in range(1, 2 ** n)
                    for told in itertools.permutations(range(1, 2 ** n), size)]
        tellings += [(3, list(told)) for size in (1, 2, 7) for told in itertools.combinations(range(1, 8), size)]
        tellings += [(n, told) for n in range(3, 7) for told in many_sets_told(n, 15, 200 + n)]
        tellings += [(6, list(range(63, 51, -1)))]
        for n, told in tellings:
            cord = text_of(ask_with(n, [make(told)])[0])
            self.assertEqual(ask_with(n, [fits(told, cord)]), [[0, 1]], (n, told))
            self.assertTrue(slow_fits(told, cord, n), (n, told))


class Fits(unittest.TestCase):
    def test_ordinary(self):
        self.assertEqual(ask(fits([3], "abAB"), fits([3], "abA"), fits([3, 4], "abAB"), fits([1], "a"),
                             fits([1], "A"), fits([2], "a"), fits([1], "aA"), fits([1], "")),
                         [[0, 1], [0, 0], [0, 0], [0, 1], [0, 1], [0, 0], [0, 0], [0, 0]])

    def test_falling_too_easily_or_too_hard(self):
        self.assertEqual(ask(fits([1, 2], "abAB"), fits([3], "ab"), fits([1, 2], "ab")), [[0, 0], [0, 0], [0, 1]])

    def test_the_order_told_does_not_count_nor_do_sets_about_others(self):
        self.assertEqual(ask(fits([4, 3], "abABc"), fits([7, 4, 3], "abABc"), fits([3, 5], "abABc")),
                         [[0, 1], [0, 1], [0, 0]])

    def test_all_sets_of_three_fingers(self):
        tellings = [list(told) for size in range(1, 8) for told in itertools.combinations(range(1, 8), size)]
        for cord in ("", "a", "abAB", "abABc", "abc", "abABcbaBAC", "acACbcBC", "aabbAABB", "abcABC"):
            found = ask_with(3, [fits(told, cord) for told in tellings])
            for told, answer in zip(tellings, found):
                self.assertEqual(answer, [0, 1 if slow_fits(told, cord, 3) else 0], (told, cord))

    def test_cords_of_more_fingers(self):
        for n in range(4, 7):
            for told in many_sets_told(n, 10, 300 + n):
                for cord in (slow_made(told), slow_made(told[:-1]) if told[1:] else "", slow_made(told) + "a"):
                    self.assertEqual(ask_with(n, [fits(told, cord)]),
                                     [[0, 1 if slow_fits(told, cord, n) else 0]], (told, cord))


if __name__ == "__main__":
    unittest.main()
