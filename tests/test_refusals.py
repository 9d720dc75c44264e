"""Wrong inputs, and right ones on the edge of them, for the calls 0 to 10 and each call that takes a cord."""

import unittest

from support import (FAR, WITH_A_CORD, alike, ask, commute, every_finger, falls, fingers, fits, join, make,
                     member, moves, ring, root, sets, taut, told_as, turn, write)


class Fingers(unittest.TestCase):
    def test_one_to_six_are_taken(self):
        for n in range(1, 7):
            last = "abcdef"[n - 1]
            self.assertEqual(ask(fingers(n), taut(last)), [[0], told_as(last)])

    def test_three_before_the_first_call(self):
        self.assertEqual(ask(taut("cC"), taut("abc"), taut("abcd")),
                         [[0], told_as("abc"), [-1003]])

    def test_others_are_refused_and_n_stays(self):
        for wrong in (0, 7, 8, -1, -6, 64, FAR, -FAR):
            for n in (1, 4, 6):
                beyond = "abcdefg"[n]
                self.assertEqual(ask(fingers(n), fingers(wrong), taut("a" + beyond), falls(2 ** n - 1, "a"),
                                     falls(2 ** n, "a")),
                                 [[0], [-2], [-1001], [0, 1], [-2]], (n, wrong))

    def test_told_again_and_fewer(self):
        self.assertEqual(ask(fingers(6), taut("f"), fingers(1), taut("ab"), fingers(2), taut("ab")),
                         [[0], told_as("f"), [0], [-1001], [0], told_as("ab")])

    def test_a_new_object_each_time(self):
        self.assertEqual(ask(fingers(6)), [[0]])
        self.assertEqual(ask(taut("d"), falls(8, "a")), [[-1000], [-2]])


class CordsToldWrongly(unittest.TestCase):
    def each(self, cord, answer, n=3):
        for name, call in WITH_A_CORD.items():
            self.assertEqual(ask(fingers(n), moves(every_finger(n)), call(cord))[2], answer, (name, n))

    def each_is_taken(self, cord, n=3):
        for name, call in WITH_A_CORD.items():
            self.assertEqual(ask(fingers(n), moves(every_finger(n)), call(cord))[2][0], 0, (name, n))

    def test_an_empty_cord_is_taken(self):
        for n in range(1, 7):
            self.each_is_taken("", n)

    def test_two_thousand_bytes_are_taken(self):
        self.each_is_taken("ab" * 1000)
        self.each_is_taken("aA" * 1000)
        self.each_is_taken("a" * 1999)

    def test_more_bytes_are_refused(self):
        for size in (2001, 2002, 2050, 2099, 2100):
            self.each("a" * size, [-8])

    def test_too_long_goes_before_the_place_of_a_fault(self):
        self.each("?" + "a" * 2000, [-8])
        self.each("a" * 2000 + "?", [-8])
        self.each("?" * 2100, [-8])

    def test_place_of_a_fault(self):
        self.each("?", [-1000])
        self.each("?abc", [-1000])
        self.each("ab?c", [-1002])
        self.each("abc?", [-1003])
        self.each("?" + "a" * 1999, [-1000])
        self.each("b" * 1000 + "?" + "a" * 999, [-2000])
        self.each("a" * 1999 + "?", [-2999])

    def test_the_first_of_several_faults(self):
        self.each("ab?c!", [-1002])
        self.each("?" * 2000, [-1000])

    def test_faults_are_told_of_the_cord_as_it_is_handed_in(self):
        self.each("aAbB?", [-1004])

    def test_a_letter_of_more_fingers(self):
        for n in range(1, 6):
            small = "abcdef"[n]
            self.each("a" + small, [-1001], n)
            self.each("aA" + small.upper(), [-1002], n)
            self.each_is_taken("a" + small + small.upper(), n + 1)

    def test_every_byte(self):
        for n in (1, 3, 6):
            right = "abcdef"[:n] + "ABCDEF"[:n]
            for byte in range(256):
                if chr(byte) in right:
                    self.each_is_taken([97, byte], n)
                else:
                    self.each([97, byte], [-1001], n)

    def test_a_semicolon_is_no_turn_of_one_cord(self):
        self.each("a;b", [-1001])

    def test_refusals_change_nothing(self):
        for call in WITH_A_CORD.values():
            self.assertEqual(ask(fingers(2), call("a?"), call("a" * 2001), taut("abBc"), taut("abB")),
                             [[0], [-1001], [-8], [-1003], told_as("a")])


class LetGo(unittest.TestCase):
    def test_from_none_to_all(self):
        for n in range(1, 7):
            every = 2 ** n - 1
            cord = "ab"[:n]
            self.assertEqual(ask(fingers(n), falls(0, ""), falls(0, cord), falls(every, cord), falls(every, "")),
                             [[0], [0, 1], [0, 0], [0, 1], [0, 1]])

    def test_out_of_range(self):
        for n in range(1, 7):
            for wrong in (-1, -2, 2 ** n, 2 ** n + 1, 2 ** (n + 1), 2 ** 40, FAR, -FAR):
                self.assertEqual(ask(fingers(n), falls(wrong, "a")), [[0], [-2]], (n, wrong))

    def test_the_number_goes_before_the_cord(self):
        for wrong in (-1, 8, FAR, -FAR):
            for cord in ("?", "abd", "a" * 2001, "?" * 2100):
                self.assertEqual(ask(falls(wrong, cord)), [[-2]])
        self.assertEqual(ask(falls(7, "a?")), [[-1001]])
        self.assertEqual(ask(falls(7, "a" * 2001)), [[-8]])


class SetsTold(unittest.TestCase):
    def both(self, n, told, refused):
        made, fitting = ask(fingers(n), make(told), fits(told, "a"))[1:]
        if refused:
            self.assertEqual((made, fitting), ([-3], [-3]), (n, told))
        else:
            self.assertEqual((made[0], fitting[0]), (0, 0), (n, told))

    def test_none(self):
        for n in range(1, 7):
            self.both(n, [], True)

    def test_how_many(self):
        for n in (4, 5, 6):
            for size in range(1, 13):
                self.both(n, list(range(1, size + 1)), False)
            self.both(n, list(range(1, 14)), True)
        self.both(6, list(range(1, 41)), True)
        self.both(3, list(range(1, 8)), False)

    def test_twice_the_same(self):
        self.both(3, [1, 1], True)
        self.both(3, [1, 2, 1], True)
        self.both(3, [7, 1, 2, 3, 3], True)
        self.both(3, [5] * 12, True)
        self.both(3, [5] * 40, True)

    def test_numbers(self):
        for n in range(1, 7):
            self.both(n, [2 ** n - 1], False)
            self.both(n, [1], False)
            for wrong in (0, -1, -3, 2 ** n, 2 ** n + 1, 2 ** (n + 3), FAR, -FAR):
                self.both(n, [wrong], True)

    def test_one_wrong_among_right_ones(self):
        for wrong in (0, -1, 8, FAR, -FAR):
            self.both(3, [wrong, 1, 2], True)
            self.both(3, [1, wrong, 2], True)
            self.both(3, [1, 2, wrong], True)

    def test_the_sets_go_before_the_cord(self):
        for wrong in ([], [0], [8], [-1], [1, 1], list(range(1, 14))):
            for cord in ("?", "abd", "a" * 2001, "?" * 2100):
                self.assertEqual(ask(fits(wrong, cord)), [[-3]])
        self.assertEqual(ask(fits([7], "ab?")), [[-1002]])
        self.assertEqual(ask(fits([7], "a" * 2001)), [[-8]])


class OfTwoCords(unittest.TestCase):
    def test_the_first_ones_refusals_go_first(self):
        long = "a" * 2001
        for call in (alike, commute, join):
            self.assertEqual(ask(call("ab?", "?"), call("?", "ab?")), [[-1002], [-1000]])
            self.assertEqual(ask(call("ab?", long), call(long, "ab?")), [[-1002], [-8]])
            self.assertEqual(ask(call("ab", long), call(long, "ab")), [[-8], [-8]])
            self.assertEqual(ask(call("", "?"), call("?", "")), [[-1000], [-1000]])


class EmptyCords(unittest.TestCase):
    def test_each_call(self):
        for n in range(1, 7):
            for cord in ("", "aA", "aAAa"):
                self.assertEqual(
                    ask(fingers(n), taut(cord), falls(0, cord), falls(1, cord), sets(cord), fits([1], cord),
                        ring(cord), alike(cord, ""), alike(cord, "a"), root(cord), commute(cord, "a"),
                        commute("a", cord), commute(cord, cord))[1:],
                    [[0], [0, 1], [0, 1], [0, 0], [0, 0], [0], [0, 1], [0, 0], [0, 0], [0, 1], [0, 1], [0, 1]])
                self.assertEqual(
                    ask(fingers(n), join(cord, cord), join(cord, "a"), join("a", cord), member(cord), write(cord),
                        turn(0, cord), turn(64, cord))[1:],
                    [[0], [0, 97], [0, 97], [0, 1], [0], [0], [0]])


if __name__ == "__main__":
    unittest.main()
