"""Promise 2: the one form is the same just for closed cords that are alike."""

import unittest

from support import (alike, all_cords, ask, ask_with, closed_forms, ring, slow_back, slow_ring,
                     slow_taut, some_cords, told_as)


class Ring(unittest.TestCase):
    def test_the_very_form(self):
        for cord, form in (("a", "a"), ("A", "A"), ("ba", "ab"), ("bA", "Ab"), ("BA", "AB"), ("Ba", "aB"),
                           ("bB", ""), ("abA", "b"), ("abcBA", "c"), ("cabC", "ab"), ("bab", "abb"),
                           ("baba", "abab"), ("abAB", "abAB"), ("BabA", "abAB"), ("baBA", "aBAb"),
                           ("caab", "aabc"), ("Abb", "Abb"), ("bbA", "Abb"), ("abaabaab", "aabaabab"),
                           ("bAa", "b"), ("aabA", "ab")):
            self.assertEqual(ask(ring(cord)), [told_as(form)], cord)

    def test_every_short_cord(self):
        for n, longest in ((1, 6), (2, 6), (3, 4)):
            cords = list(all_cords(n, longest))
            for cord, answer in zip(cords, ask_with(n, [ring(cord) for cord in cords])):
                self.assertEqual(answer, told_as(slow_ring(cord)), cord)

    def test_longer_cords(self):
        for n in range(1, 7):
            cords = list(some_cords(n, 30, 40, n)) + [cord * 3 for cord in some_cords(n, 10, 9, n)]
            for cord, answer in zip(cords, ask_with(n, [ring(cord) for cord in cords])):
                self.assertEqual(answer, told_as(slow_ring(cord)), cord)


class AlikeClosed(unittest.TestCase):
    def check_same(self, n, one, other):
        found = ask_with(n, [ring(one), ring(other), alike(one, other), alike(other, one)])
        self.assertEqual(found[0], found[1], (one, other))
        self.assertEqual(found[2:], [[0, 1], [0, 1]], (one, other))

    def test_begun_elsewhere(self):
        for n in range(1, 7):
            for cord in some_cords(n, 12, 20, 30 + n):
                for place in range(len(cord)):
                    self.check_same(n, cord, cord[place:] + cord[:place])

    def test_pulled_taut_over_the_knot(self):
        for n in range(1, 7):
            for cord, ends in zip(some_cords(n, 40, 20, 40 + n), some_cords(n, 40, 10, 50 + n)):
                self.check_same(n, cord, ends + cord + slow_back(ends))
                self.check_same(n, cord, slow_taut(ends + cord + slow_back(ends)))

    def test_just_if_they_come_to_the_same(self):
        cords = list(all_cords(2, 3)) + ["abAB", "baBA", "BabA", "aBAb", "abab", "aabb", "baab", "bbaa", "AbaB"]
        forms = {cord: closed_forms(cord) for cord in cords}
        rings = dict(zip(cords, ask_with(2, [ring(cord) for cord in cords])))
        pairs = [(one, other) for one in cords for other in cords]
        found = ask_with(2, [alike(one, other) for one, other in pairs])
        for (one, other), answer in zip(pairs, found):
            same = bool(forms[one] & forms[other])
            self.assertEqual(answer, [0, 1 if same else 0], (one, other))
            self.assertEqual(rings[one] == rings[other], same, (one, other))

    def test_unlike(self):
        for one, other in (("a", "b"), ("a", "A"), ("a", ""), ("a", "aa"), ("ab", "aB"), ("ab", "BA"),
                           ("abAB", "baBA"), ("aabb", "abab"), ("abc", "acb"), ("aabAB", "abaBA"),
                           ("abAB", ""), ("aabbab", "aababb")):
            self.assertEqual(ask(alike(one, other), alike(other, one)), [[0, 0], [0, 0]], (one, other))
            self.assertNotEqual(ask(ring(one)), ask(ring(other)), (one, other))


if __name__ == "__main__":
    unittest.main()
