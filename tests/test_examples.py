"""Every example of the document."""

import unittest

from fingercord.cords import answers
from support import (alike, ask, basis, commute, exchange, falls, fits, make, member, moves, onto, ring, root,
                     row, sets, size, taut, told_as, turn, write)


class Examples(unittest.TestCase):
    def test_taut(self):
        self.assertEqual(ask(taut("abBA")), [[0]])
        self.assertEqual(ask(taut("aabB")), [[0, 97, 97]])

    def test_falls(self):
        self.assertEqual(ask(falls(1, "abAB")), [[0, 1]])
        self.assertEqual(ask(falls(0, "abAB")), [[0, 0]])

    def test_sets(self):
        self.assertEqual(ask(sets("abAB")), [[0, 1, 2]])
        self.assertEqual(ask(sets("abABc")), [[0, 5, 6]])
        self.assertEqual(ask(sets("")), [[0, 0]])

    def test_make(self):
        self.assertEqual(ask(make([3])), [told_as("abAB")])
        self.assertEqual(ask(make([1, 2])), [told_as("ab")])
        self.assertEqual(ask(make([3, 4])), [told_as("abABc")])

    def test_fits(self):
        self.assertEqual(ask(fits([3, 4], "abABc")), [[0, 1]])

    def test_ring(self):
        self.assertEqual(ask(ring("baB")), [[0, 97]])

    def test_alike(self):
        self.assertEqual(ask(alike("ab", "ba")), [[0, 1]])

    def test_root(self):
        self.assertEqual(ask(root("baaB")), [[0, 2, 98, 97, 66]])
        self.assertEqual(ask(taut("baBbaB")), ask(taut("baaB")))

    def test_commute(self):
        self.assertEqual(ask(commute("aa", "aaa")), [[0, 1]])

    def test_moves(self):
        self.assertEqual(ask(moves("aa;ab"), member("bA"), member("Ba"), size(), basis(), write("Ba")),
                         [[0, 2], [0, 0], [0, 1], [0, 2, 2, 0], [0, 97, 97, 59, 97, 98], [0, -2, 1]])

    def test_exchange(self):
        self.assertEqual(ask(exchange("ab;b;c"), turn(2, "a"), onto()), [[0], [0, 97, 98, 98], [0, 1]])

    def test_moves_and_exchange_on_one_object(self):
        self.assertEqual(ask(moves("aa;ab"), member("bA"), member("Ba"), size(), basis(), write("Ba"),
                             exchange("ab;b;c"), turn(2, "a"), onto()),
                         [[0, 2], [0, 0], [0, 1], [0, 2, 2, 0], told_as("aa;ab"), [0, -2, 1], [0], told_as("abb"),
                          [0, 1]])

    def test_one_flat_list_in_and_out(self):
        calls = [1] + row("aabB") + [0, 9] + [2, 1] + row("abAB") + [8] + row("baaB")
        self.assertEqual(answers(calls), [3, 0, 97, 97, 1, -2, 2, 0, 1, 5, 0, 2, 98, 97, 66])
        calls = [11] + row("aa;ab") + [13, 14, 15] + row("Ba") + [15] + row("B") + [17, 64] + row("aB") + [18]
        self.assertEqual(answers(calls), [2, 0, 2, 4, 0, 2, 2, 0, 6, 0, 97, 97, 59, 97, 98, 3, 0, -2, 1, 1, -5,
                                          3, 0, 97, 66, 2, 0, 1])


if __name__ == "__main__":
    unittest.main()
