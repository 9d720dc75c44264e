"""Long inputs of the calls 10 to 18, answered in a few seconds."""

import unittest

from support import (MOST_SLOW_CALLS, LongCase, ask, ask_of_moves, basis, every_finger, exchange, fingers, join,
                     long_cord, member, moves, onto, size, slow_back, slow_basis, slow_exchanged, slow_multiplied,
                     slow_taut, split, taut_cord, text_of, told_as, turn, within_a_few_seconds, write)

# Six moves of 100 turns together, with six fingers; hardly anything of them is made one.
LONG_MOVES = [taut_cord(6, length, seed) for seed, length in enumerate((17, 17, 17, 17, 16, 16))]
# Also of 100 turns together: all of them hang together for long.
HANGING_MOVES = ["abcdef" * 2 + tail for tail in ("abcd", "Fab", "deab", "bFEDF", "cacac", "Ea")]
AS_LONG_AS_TEXTS_GO = 2000


def long_product(cords, seed):
    """A cord of up to 2000 turns that the moves make, and hardly more than pulled taut."""
    both_ways = cords + [slow_back(cord) for cord in cords]
    cord = ""
    place = seed
    while True:
        place = (place * 7 + 5) % 1000003
        longer = slow_taut(cord + both_ways[place % len(both_ways)])
        if len(longer) > AS_LONG_AS_TEXTS_GO:
            return cord
        cord = longer


class LongMoves(LongCase):
    def test_basis_and_size(self):
        self.assertEqual(sum(map(len, LONG_MOVES)), 100)
        free, told = ask_of_moves(6, LONG_MOVES, [basis(), size()])
        self.assertEqual(text_of(free).split(";"), slow_basis(LONG_MOVES))
        self.assertEqual(told[1], 6)

    def test_member_and_write(self):
        parts = text_of(ask_of_moves(6, LONG_MOVES, [basis()])[0]).split(";")
        for seed in range(3):
            cord = long_product(LONG_MOVES, seed)
            self.assertGreater(len(cord), 1950)
            made, told, not_made, not_told = ask_of_moves(6, LONG_MOVES, [member(cord), write(cord),
                                                                          member(cord[:-1]), write(cord[:-1])])
            self.assertEqual(made, [0, 1])
            self.assertEqual(told[0], 0)
            self.assertEqual(slow_multiplied(parts, told[1:]), cord)
            self.assertEqual((not_made, not_told), ([0, 0], [-5]))

    def test_one_move_of_a_hundred_turns(self):
        self.assertEqual(ask(fingers(1), moves("a" * 100), size(), basis(), member("a" * 2000), write("A" * 2000),
                             member("a" * 1999), write("a" * 1999))[1:],
                         [[0, 1], [0, 1, 100, 100], told_as("a" * 100), [0, 1], [0] + [-1] * 20, [0, 0], [-5]])
        cord = taut_cord(6, 100, 9)
        self.assertEqual(ask_of_moves(6, [cord], [member(cord), write(slow_back(cord)), member(cord[1:])]),
                         [[0, 1], [0, -1], [0, 0]])

    def test_moves_of_which_nearly_all_is_made_one(self):
        self.assertEqual(ask(fingers(1), moves("a" * 40 + ";" + "a" * 60), size(), basis(), member("a" * 1990),
                             write("a" * 2000))[2:],
                         [[0, 1, 20, 20], told_as("a" * 20), [0, 0], [0] + [1] * 100])
        self.assertEqual(ask(moves("a" * 49 + ";" + "A" * 51), size(), basis(), write("a" * 2000))[1:],
                         [[0, 1, 1, 0], told_as("a"), [0] + [1] * 2000])

    def test_every_letter_a_move(self):
        cord = long_cord(6, 21)
        told = [("abcdef".index(letter) + 1) if letter.islower() else -("ABCDEF".index(letter) + 1) for letter in cord]
        self.assertEqual(ask_of_moves(6, list("abcdef"), [member(cord), write(cord)]), [[0, 1], [0] + told])

    def test_cords_that_pull_taut_to_little(self):
        half = long_cord(6, 22)[:1000]
        self.assertEqual(ask_of_moves(6, LONG_MOVES, [member(half + slow_back(half)), write(half + slow_back(half)),
                                                      write("aA" * 1000), member(half)]),
                         [[0, 1], [0], [0], [0, 0]])


class QuickMoves(LongCase):
    def check(self, calls, many):
        self.assertLessEqual(len(calls), 17000)
        found = split(within_a_few_seconds(self, calls))
        self.assertEqual(len(found), many)
        self.assertTrue(all(answer[0] in (0, -5) for answer in found))
        return found

    def test_twenty_calls_of_one_kind(self):
        for cords in (LONG_MOVES, HANGING_MOVES, ["a" * 100], ["a" * 49, "a" * 51]):
            for call in (size(), basis(), onto(), member("abAB" * 200), write("a" * 800)):
                calls = fingers(6) + moves(";".join(cords)) + call * MOST_SLOW_CALLS
                found = self.check(calls, 2 + MOST_SLOW_CALLS)
                self.assertEqual(found[2:], found[2:3] * MOST_SLOW_CALLS)

    def test_as_many_long_cords_as_a_list_holds(self):
        for call in (member, write):
            calls = fingers(6) + moves(";".join(LONG_MOVES))
            for seed in range(8):
                calls += call(long_product(LONG_MOVES, seed))
            self.assertGreater(len(calls), 15000)
            calls += (size() + basis()) * 6
            found = self.check(calls, 22)
            self.assertEqual({answer[0] for answer in found}, {0})

    def test_moves_told_anew_each_time(self):
        calls = fingers(6)
        for place in range(MOST_SLOW_CALLS):
            cords = [taut_cord(1 + place % 6, 16, 10 * place + one) for one in range(6)]
            calls += moves(";".join(cords)) + [13 + place % 2]
        self.check(calls, 1 + 2 * MOST_SLOW_CALLS)

    def test_moves_told_as_often_as_a_list_holds(self):
        for cords in (["a" * 40, "a" * 41], LONG_MOVES[:5], ["abab" * 7, "abab" * 8 + "ab", "bABA"]):
            calls = fingers(6) + moves(";".join(cords)) * 160
            found = self.check(calls, 161)
            self.assertEqual(found[1:], [[0, len(cords)]] * 160)


class QuickExchange(LongCase):
    def check(self, rows, cords, first, most=198):
        """Turned 64 times, over and over, each of these cords is answered; the first one as told."""
        calls = fingers(6) + exchange(";".join(rows))
        many = 0
        while many < most and len(calls) + len(cords[many % len(cords)]) + 3 <= 17000:
            calls += turn(64, cords[many % len(cords)])
            many += 1
        found = split(within_a_few_seconds(self, calls))
        self.assertEqual(len(found), many + 2)
        self.assertEqual(found[1:3], [[0], first])
        self.assertEqual(found[2 + len(cords):], found[2:-len(cords)])

    def test_each_letter_for_another(self):
        cords = [long_cord(6, 30 + place) for place in range(8)]
        self.check(list("bcdefa"), cords, told_as(slow_exchanged(list("efabcd"), cords[0])))
        self.check(list("BCDEFA"), cords, told_as(slow_exchanged(list("efabcd"), cords[0])))
        self.check(list("Bcdefa"), cords, told_as(slow_exchanged(list("EfaBCD"), cords[0])))
        self.check(list("abcdef"), cords, told_as(cords[0]))

    def test_rows_of_which_most_is_pulled_out(self):
        cord = "a" * 1900
        self.check(["b" * 47 + "a" + "B" * 47, "", "c", "d", "e", "f"], [cord],
                   told_as("b" * 47 + cord + "B" * 47))

    def test_slowly_growing(self):
        cord = "a" + "cdef" * 480
        self.check(["ab", "b", "c", "d", "e", "f"], [cord], told_as("a" + "b" * 64 + cord[1:]))

    def test_short_cords_that_grow_near_two_thousand_turns(self):
        rows = ["b" * 20 + "a" + "B" * 20, "", "a" * 20, "c" * 18, "d" * 5, "e"]
        self.check(rows, ["fa" + "a" * place for place in range(9)],
                   told_as("b" * 20 + "a" * 1801 + "B" * 20), 100)

    def test_growing_too_long_at_once(self):
        cords = [long_cord(6, 40 + place) for place in range(8)]
        self.check(LONG_MOVES, cords, [-6])
        self.check(["a" * 50, "a" * 46, "c", "d", "e", "f"], ["a" * 80, "b" * 80], [-6])

    def test_many_exchanges(self):
        calls = fingers(6) + (exchange(every_finger(6)) + turn(64, "abcdef" * 20)) * 99
        found = split(within_a_few_seconds(self, calls))
        self.assertEqual(found[1:], [[0], told_as("abcdef" * 20)] * 99)


class QuickJoin(LongCase):
    def test_as_many_as_a_list_holds(self):
        one, other = long_cord(6, 50), long_cord(6, 51)
        found = split(within_a_few_seconds(self, fingers(6) + join(one, other) * 4))
        self.assertEqual(found[1:], [told_as(slow_taut(one + other))] * 4)
        cord = one[:40]
        found = split(within_a_few_seconds(self, fingers(6) + join(cord, slow_back(cord)) * 199))
        self.assertEqual(found[1:], [[0]] * 199)


if __name__ == "__main__":
    unittest.main()
