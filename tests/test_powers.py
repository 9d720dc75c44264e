"""Promise 4: two cords commute just if both are powers of one cord; and each cord's root."""

import unittest

from support import (all_cords, ask, ask_with, commute, root, slow_back, slow_power, slow_taut,
                     some_cords, taut, text_of, told_as)

LONGEST = 6


def taut_cords(n, longest):
    return [cord for cord in all_cords(n, longest) if slow_taut(cord) == cord]


def slow_roots(n, longest):
    """Of each taut cord, empty ones apart: the most times that it is a power, and of what."""
    found = {}
    for cord in taut_cords(n, longest)[1:]:
        times = 1
        power = cord
        while len(power) <= longest:
            if times > found.get(power, (0, ""))[0]:
                found[power] = (times, cord)
            times += 1
            power = slow_power(cord, times)
    return found


def times_and_root(answer):
    return answer[1], text_of([answer[0]] + answer[2:])


class Root(unittest.TestCase):
    def test_the_very_root(self):
        for cord, times, of_what in (("a", 1, "a"), ("aaa", 3, "a"), ("AA", 2, "A"), ("abab", 2, "ab"),
                                     ("aba", 1, "aba"), ("aab", 1, "aab"), ("baBbaB", 2, "baB"),
                                     ("abAabA", 2, "abA"), ("cababC", 2, "cabC"), ("aAbb", 2, "b"),
                                     ("abaaba", 2, "aba"), ("aabaab", 2, "aab"), ("abaab", 1, "abaab"),
                                     ("aaaaaa", 6, "a"), ("ababababab", 5, "ab"), ("abABabAB", 2, "abAB"),
                                     ("bbaaBB", 2, "bbaBB"), ("baB", 1, "baB")):
            self.assertEqual(ask(root(cord)), [told_as(of_what, times)], cord)

    def test_none_of_what_is_empty_taut(self):
        self.assertEqual(ask(root(""), root("aA"), root("abBA")), [[0, 0], [0, 0], [0, 0]])

    def test_every_short_cord(self):
        for n, longest in ((1, 6), (2, LONGEST), (3, 4)):
            roots = slow_roots(n, longest)
            cords = sorted(roots)
            for cord, answer in zip(cords, ask_with(n, [root(cord) for cord in cords])):
                self.assertEqual(times_and_root(answer), roots[cord], cord)

    def test_cords_that_are_not_taut(self):
        cords = list(all_cords(2, 5))
        loose = ask_with(2, [root(cord) for cord in cords])
        taut_ones = ask_with(2, [root(slow_taut(cord)) for cord in cords])
        self.assertEqual(loose, taut_ones)

    def test_the_root_so_many_times_is_the_cord_again(self):
        for n in range(1, 7):
            for cord in some_cords(n, 20, 12, n):
                for power in (cord, cord * 2, cord * 3, cord * 7, slow_back(cord) * 4, "a" + cord * 3 + "A"):
                    times, of_what = times_and_root(ask_with(n, [root(power)])[0])
                    self.assertEqual(slow_power(of_what, times), slow_taut(power), power)
                    self.assertEqual(slow_taut(of_what), of_what, power)
                    self.assertEqual(ask_with(n, [taut(of_what * times)]), ask_with(n, [taut(power)]))

    def test_the_root_is_no_power_itself(self):
        for n in range(1, 7):
            for cord in some_cords(n, 20, 8, 60 + n):
                for times in (1, 2, 3, 6):
                    answer = ask_with(n, [root(slow_power(cord, times))])[0]
                    of_what = times_and_root(answer)[1]
                    if of_what:
                        self.assertEqual(ask_with(n, [root(of_what)]), [told_as(of_what, 1)])
                        self.assertEqual(answer[1] % times, 0)


class Commute(unittest.TestCase):
    def test_powers_of_one_cord(self):
        for n in range(1, 7):
            cords = ["a", "aA", "abA"[:2 * n - 1]] + list(some_cords(n, 6, 10, 70 + n))
            pairs = [(slow_power(cord, one), slow_power(cord, other)) for cord in cords
                     for one in range(-4, 5) for other in range(-4, 5)]
            for pair, answer in zip(pairs, ask_with(n, [commute(*pair) for pair in pairs])):
                self.assertEqual(answer, [0, 1], pair)

    def test_just_if_they_are_powers_of_one_cord(self):
        roots = slow_roots(2, LONGEST)
        cords = taut_cords(2, 3) + ["abab", "BABABA", "baaB", "bAAAB", "abAB", "baBA"]
        pairs = [(one, other) for one in cords for other in cords]
        for (one, other), answer in zip(pairs, ask_with(2, [commute(one, other) for one, other in pairs])):
            same = one == "" or other == "" or roots[one][1] in (roots[other][1], slow_back(roots[other][1]))
            self.assertEqual(answer, [0, 1 if same else 0], (one, other))

    def test_others_do_not(self):
        for one, other in (("a", "b"), ("aa", "b"), ("a", "ab"), ("ab", "ba"), ("abAB", "baB"), ("ab", "aab"),
                           ("abab", "abaab"), ("a", "baB"), ("aaa", "aab")):
            self.assertEqual(ask(commute(one, other), commute(other, one)), [[0, 0], [0, 0]], (one, other))

    def test_cords_that_are_not_taut(self):
        self.assertEqual(ask(commute("aBb", "bBaaa"), commute("cC", "ab"), commute("aBb", "b")),
                         [[0, 1], [0, 1], [0, 0]])


if __name__ == "__main__":
    unittest.main()
