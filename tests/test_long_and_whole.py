"""Long inputs, lists of many calls, and what holds of the function as a whole."""

import unittest

from fingercord.cords import answers
from support import (WITH_A_CORD, LongCase, alike, ask, ask_with, basis, commute, every_finger, exchange, falls,
                     fingers, fits, growing_cord, join, long_cord, make, member, moves, onto, ring, root, sets, size,
                     slow_back, slow_least_sets, slow_made, taut, told_as, turn, within_a_few_seconds,
                     write)

TOLD = [63, 62, 61, 59, 55, 47, 31, 60, 58, 54, 46, 30]


class LongCords(LongCase):
    def test_taut(self):
        cord = long_cord(3, 1)
        self.assertEqual(ask(taut("aA" * 1000), taut("a" * 1000 + "A" * 1000), taut("ab" * 1000), taut(cord)),
                         [[0], [0], told_as("ab" * 1000), told_as(cord)])
        self.assertEqual(ask(taut(cord[:1000] + slow_back(cord[:1000]))), [[0]])

    def test_falls(self):
        half = "ab" * 500
        self.assertEqual(ask(falls(0, half + slow_back(half)), falls(2, "ab" * 1000), falls(3, "ab" * 1000),
                             falls(3, "ab" * 999 + "ac")),
                         [[0, 1], [0, 0], [0, 1], [0, 0]])

    def test_sets(self):
        cord = long_cord(6, 2)
        self.assertEqual(ask_with(6, [sets(cord), sets("abcdef" * 333), sets("aA" * 1000)]),
                         [[0] + slow_least_sets(cord, 6), [0, 63], [0, 0]])
        self.assertEqual(ask(sets("a" * 1000 + "b" + "A" * 998 + "B")), [[0, 1]])

    def test_make_and_fits(self):
        cord = slow_made(TOLD)
        self.assertEqual(ask_with(6, [make(TOLD), fits(TOLD, cord)]), [told_as(cord), [0, 1]])
        self.assertGreater(len(cord), 400)
        loose = cord + "aA" * ((2000 - len(cord)) // 2)
        self.assertEqual(ask_with(6, [fits(TOLD, loose), fits(TOLD[1:], loose), fits([32], loose)]),
                         [[0, 1], [0, 1], [0, 0]])

    def test_ring(self):
        self.assertEqual(ask(ring("b" + "a" * 1999), ring("b" * 999 + "ca" + "B" * 999), ring("a" * 2000),
                             ring("ba" * 1000), ring("a" * 999 + "b" + "a" * 1000)),
                         [told_as("a" * 1999 + "b"), told_as("ac"), told_as("a" * 2000), told_as("ab" * 1000),
                          told_as("a" * 1999 + "b")])
        cord = growing_cord()
        first = min(cord[place:] + cord[:place] for place in range(2000))
        self.assertEqual(ask(ring(cord)), [told_as(first)])

    def test_alike(self):
        cord = long_cord(6, 3)
        self.assertEqual(ask_with(6, [alike(cord, cord[777:] + cord[:777]), alike(cord, slow_back(cord)),
                                      alike(cord, cord[:1999])]),
                         [[0, 1], [0, 0], [0, 0]])
        self.assertEqual(ask(alike("a" * 1999 + "b", "a" * 1000 + "b" + "a" * 999),
                             alike("a" * 1999 + "b", "a" * 2000)),
                         [[0, 1], [0, 0]])

    def test_root(self):
        self.assertEqual(ask(root("a" * 2000), root("A" * 1999), root("ab" * 1000), root("a" * 1999 + "b"),
                             root("b" * 500 + "ac" * 500 + "B" * 500)),
                         [told_as("a", 2000), told_as("A", 1999), told_as("ab", 1000),
                          told_as("a" * 1999 + "b", 1), told_as("b" * 500 + "ac" + "B" * 500, 500)])
        half = growing_cord()[:999] + "c"
        self.assertEqual(ask(root(half + half)), [told_as(half, 2)])

    def test_commute(self):
        self.assertEqual(ask(commute("a" * 2000, "A" * 1999), commute("ab" * 1000, "BA" * 700),
                             commute("ab" * 1000, "ba" * 1000), commute("a" * 2000, "a" * 1999 + "b")),
                         [[0, 1], [0, 1], [0, 0], [0, 0]])


class Quick(LongCase):
    def test_as_many_long_cords_as_a_list_holds(self):
        cords = [long_cord(6, 4), "a" * 2000, growing_cord(), "a" * 1999 + "b", "ab" * 999 + "ac",
                 "b" * 999 + "ac" + "B" * 999, "a" * 1000 + "A" * 1000]
        for name, call in WITH_A_CORD.items():
            calls = fingers(6) + moves(every_finger(6))
            for cord in cords:
                calls += call(cord)
            found = within_a_few_seconds(self, calls)
            self.assertGreater(len(found), 2 * len(cords), name)

    def test_two_long_cords(self):
        one = growing_cord()
        other = one[1999:] + one[:1999]
        for call in (alike, commute):
            within_a_few_seconds(self, fingers(6) + call(one, other) * 4)
            within_a_few_seconds(self, fingers(6) + call("a" * 2000, "a" * 2000) * 4)

    def test_fits_with_many_sets(self):
        cord = slow_made(TOLD)
        cord += "aA" * ((2000 - len(cord)) // 2)
        found = within_a_few_seconds(self, fingers(6) + fits(TOLD, cord) * 8)
        self.assertEqual(found, [1, 0] + [2, 0, 1] * 8)

    def test_two_hundred_calls(self):
        cord = long_cord(6, 5)[:75]
        for call in (taut(cord), falls(1, cord), sets(cord), make(TOLD), fits(TOLD, cord[:60]), ring(cord),
                     alike(cord[:40], cord[:40]), root(cord), commute(cord[:40], cord[:40]), fingers(6)):
            calls = fingers(6) + call * 199
            self.assertLessEqual(len(calls), 17000)
            found = within_a_few_seconds(self, calls)
            self.assertEqual(found, [1, 0] + answers(fingers(6) + call)[2:] * 199)


def every_call():
    """One line with each of the calls, answered and refused."""
    return (fingers(4) + taut("abBAd") + falls(3, "abAB") + sets("adADbdBD") + make([3, 12]) + fits([3], "abAB")
            + ring("baB") + alike("ab", "ba") + root("baaB") + commute("aa", "AAA") + fingers(7) + taut("a?")
            + falls(16, "a") + falls(0, "a") + sets("?") + make([]) + make([1, 1]) + fits([0], "a") + fits([1], "b")
            + ring("a" * 2001) + alike("a", "?") + alike("a", "b") + root("") + commute("a", "b") + taut("")
            + join("ab", "Ba") + join("?", "a") + moves("aab;bA;dD") + moves(";;;;;;") + moves("a?") + member("abb")
            + member("a?") + size() + basis() + write("BAAbA") + write("c") + exchange("ab;bA;;d") + exchange("a;b;c")
            + exchange("e;;;") + turn(5, "acdB") + turn(65, "a") + turn(64, "a") + onto())


HOW_MANY_CALLS = 43


class KeptList(list):
    """A list that can be read, but fails whoever changes it."""

    def fail(self, *told, **named):
        raise AssertionError("the list handed in is changed")

    append = clear = extend = insert = pop = remove = reverse = sort = fail
    __setitem__ = __delitem__ = __iadd__ = __imul__ = fail


class AsAWhole(LongCase):
    def test_what_was_handed_in_is_as_it_was(self):
        calls = every_call()
        before = list(calls)
        answers(calls)
        self.assertEqual(calls, before)

    def test_nor_is_it_changed_for_a_while(self):
        self.assertEqual(answers(KeptList(every_call())), answers(every_call()))

    def test_a_second_run_answers_as_the_first(self):
        first = answers(every_call())
        self.assertEqual(answers(every_call()), first)
        first.clear()
        self.assertNotEqual(answers(every_call()), [])

    def test_the_calls_change_nothing(self):
        once = ask(every_call())
        twice = ask(every_call(), every_call()[2:])
        self.assertEqual(twice, once + once[1:])

    def test_whole_numbers_alone(self):
        found = answers(every_call())
        self.assertIs(type(found), list)
        self.assertEqual({type(number) for number in found}, {int})

    def test_counts_and_refusals(self):
        found = ask(every_call())
        self.assertEqual(len(found), HOW_MANY_CALLS)
        for answer in found:
            self.assertTrue(answer[0] == 0 or answer[0] < 0 and len(answer) == 1, answer)


if __name__ == "__main__":
    unittest.main()
