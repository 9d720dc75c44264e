"""Two cords, the second behind the first, pulled taut."""

import unittest

from support import ask, ask_with, join, long_cord, slow_back, slow_taut, some_cords, taut, told_as


class Join(unittest.TestCase):
    def test_ordinary(self):
        for one, other, answer in (("ab", "c", "abc"), ("ab", "Ba", "aa"), ("ab", "BA", ""), ("a", "b", "ab"),
                                   ("b", "a", "ba"), ("", "ab", "ab"), ("ab", "", "ab"), ("", "", ""),
                                   ("aA", "bB", ""), ("aAb", "Bcc", "cc"), ("abc", "CBAabc", "abc"),
                                   ("aab", "BAAA", "A"), ("abB", "A", ""), ("ab", "ab", "abab")):
            self.assertEqual(ask(join(one, other)), [told_as(answer)], (one, other))

    def test_as_the_document_tells(self):
        for n in range(1, 7):
            pairs = list(zip(some_cords(n, 60, 20, n), some_cords(n, 60, 20, n + 10)))
            for (one, other), answer in zip(pairs, ask_with(n, [join(one, other) for one, other in pairs])):
                self.assertEqual(answer, told_as(slow_taut(one + other)), (one, other))

    def test_the_cord_and_itself_turned_back(self):
        for n in range(1, 7):
            for cord in some_cords(n, 20, 30, 20 + n):
                self.assertEqual(ask_with(n, [join(cord, slow_back(cord)), join(cord + "a", slow_back(cord))]),
                                 [[0], ask_with(n, [taut(cord + "a" + slow_back(cord))])[0]])

    def test_long_cords(self):
        one, other = long_cord(3, 1), long_cord(3, 2)
        self.assertEqual(ask(join("a" * 2000, "b" * 2000), join("a" * 2000, "a" * 2000), join("a" * 2000, "A" * 1999)),
                         [told_as("a" * 2000 + "b" * 2000), told_as("a" * 4000), told_as("a")])
        self.assertEqual(ask(join(one, slow_back(one)), join(one, other)), [[0], told_as(slow_taut(one + other))])


if __name__ == "__main__":
    unittest.main()
