"""Promise 5: an exchange that's onto makes no cord empty but those that are so already; and exchanging."""

import itertools
import random
import unittest

from support import (all_cords, ask, ask_of_exchange, ask_of_moves, every_finger, exchange, fingers, letters, moves,
                     onto, size, slow_all_made, slow_back, slow_exchanged, slow_exchanged_times, slow_size,
                     slow_taut, some_cords, taut, taut_cord, text_of, told_as, turn, write)

GROWING = exchange("aa;b;c")
SHRINKING = exchange("bbb;;a")


def onto_by_steps(n, steps, seed):
    """Rows that are onto: each finger's own letter, put behind one another and turned back step by step."""
    chance = random.Random(seed)
    rows = list("abcdef"[:n])
    chance.shuffle(rows)
    for _ in range(steps):
        one = chance.randrange(n)
        other = chance.randrange(n)
        if one == other:
            rows[one] = slow_back(rows[one])
        else:
            more = chance.choice([rows[other], slow_back(rows[other])])
            longer = slow_taut(chance.choice([rows[one] + more, more + rows[one]]))
            if sum(map(len, rows)) - len(rows[one]) + len(longer) <= 100:
                rows[one] = longer
    return rows


def many_onto():
    """Pairs of n and rows that are onto."""
    return [(n, onto_by_steps(n, steps, 10 * n + steps)) for n in range(1, 7) for steps in (0, 1, 2, 3, 5, 8, 13, 30)]


def rows_not_onto(n):
    """Such as take each finger to a row, but don't make all."""
    own = list("abcdef"[:n])
    found = [["aa"] + own[1:], [""] + own[1:], [""] * n, ["aaa"] + own[1:], ["aA"] + own[1:]]
    if n > 1:
        found += [["b"] + own[1:], ["B"] + own[1:], ["abABa"] + own[1:], ["ab", "ba"] + own[2:],
                  ["abAB", "b"] + own[2:], ["aab", "abb"] + own[2:]]
    return found


def not_onto_by_steps(n, seed):
    """Rows that aren't onto, put into rows that are: what's made stays short of all."""
    for rows in rows_not_onto(n):
        outer = onto_by_steps(n, 4, seed)
        mixed = [slow_exchanged(outer, row) for row in rows]
        if sum(map(len, mixed)) <= 100:
            yield mixed


class Onto(unittest.TestCase):
    def test_ordinary(self):
        for n, text, answer in ((3, "a;b;c", 1), (3, "b;c;a", 1), (3, "A;B;C", 1), (3, "ab;b;c", 1), (3, "ab;b;", 0),
                                (3, "aa;b;c", 0), (3, "a;b;a", 0), (3, "a;b;ab", 0), (3, "c;abcC;b", 1),
                                (3, "c;ab;Ab", 0),
                                (2, "ab;ba", 0), (2, "ab;a", 1), (2, "aab;ab", 1), (2, "aab;abb", 0),
                                (2, "abA;aBBA", 0), (2, "abA;a", 1), (2, "abABa;b", 0), (1, "a", 1), (1, "A", 1),
                                (1, "aa", 0), (1, "", 0), (1, "aAa", 1), (1, "aA", 0), (3, ";;", 0), (3, "a;;c", 0),
                                (6, "b;c;d;e;f;a", 1), (6, "b;c;d;e;f;f", 0), (6, "fa;fb;fc;fd;fe;F", 1),
                                (3, "abcCB;CcB;bBc", 1)):
            self.assertEqual(ask(fingers(n), exchange(text), onto())[1:], [[0], [0, answer]], (n, text))

    def test_before_an_exchange_is_told(self):
        for n in range(1, 7):
            self.assertEqual(ask(fingers(n), onto())[1], [0, 1])
        self.assertEqual(ask(onto()), [[0, 1]])

    def test_rows_that_are(self):
        for n, rows in many_onto():
            self.assertEqual(ask_of_exchange(n, rows, [onto()]), [[0, 1]], rows)

    def test_rows_that_are_not(self):
        for n in range(1, 7):
            for rows in rows_not_onto(n) + list(not_onto_by_steps(n, n)):
                self.assertEqual(ask_of_exchange(n, rows, [onto()]), [[0, 0]], (n, rows))

    def test_just_if_each_letter_is_made(self):
        """Held against all products of the rows, gone through with no graph."""
        short = ["", "a", "b", "A", "ab", "Ab", "bb", "aB", "ba", "aa"]
        for rows in itertools.product(short, repeat=2):
            made = slow_all_made(rows, 5)
            self.assertEqual(ask_of_exchange(2, rows, [onto()]), [[0, 1 if {"a", "b"} <= made else 0]], rows)

    def test_just_if_as_moves_they_make_each_letter(self):
        for n, rows in many_onto() + [(n, rows) for n in range(1, 7) for rows in rows_not_onto(n)]:
            found = ask_of_moves(n, rows, [write(letter) for letter in letters(n)[::2]])
            every = all(answer[0] == 0 for answer in found)
            self.assertEqual(ask_of_exchange(n, rows, [onto()]), [[0, 1 if every else 0]], rows)
            self.assertEqual(slow_size(rows, n) == [n, 1, 1], every, rows)

    def test_it_leaves_the_moves(self):
        self.assertEqual(ask(moves("aa"), exchange("b;c;a"), onto(), size()), [[0, 1], [0], [0, 1], [0, 1, 2, 0]])
        self.assertEqual(ask(moves("a;b;c"), exchange("aa;c;a"), onto(), size()), [[0, 3], [0], [0, 0], [0, 3, 1, 1]])


class EmptyBehindAnExchange(unittest.TestCase):
    def test_onto_makes_no_cord_empty_but_empty_ones(self):
        for n, rows in many_onto():
            cords = list(some_cords(n, 15, 12, n)) + list(all_cords(n, 2 if n < 4 else 1))
            for cord, answer in zip(cords, ask_of_exchange(n, rows, [turn(1, cord) for cord in cords])):
                self.assertEqual(answer == [0], slow_taut(cord) == "", (rows, cord))

    def test_each_short_exchange_that_is_told_onto(self):
        short = ["", "a", "B", "ab", "bA", "aab", "baB", "abAB"]
        cords = [cord for cord in all_cords(2, 4) if cord and slow_taut(cord) == cord]
        for rows in itertools.product(short, repeat=2):
            answers_told = ask_of_exchange(2, rows, [onto()] + [turn(1, cord) for cord in cords[:170:7]])
            if answers_told[0] == [0, 1]:
                self.assertNotIn([0], answers_told[1:], rows)
                self.assertTrue(all(slow_exchanged(rows, cord) for cord in cords), rows)

    def test_onto_takes_unlike_cords_to_unlike_ones(self):
        for n, rows in many_onto():
            cords = sorted({slow_taut(cord) for cord in all_cords(n, 3 if n < 3 else 1)})
            found = ask_of_exchange(n, rows, [turn(1, cord) for cord in cords])
            self.assertEqual(len({tuple(answer) for answer in found}), len(cords), rows)

    def test_empty_cords_stay_empty(self):
        for n, rows in many_onto():
            asked = [turn(times, cord) for times in (0, 1, 2, 64) for cord in ("", "aA", "AaaA")]
            self.assertEqual(ask_of_exchange(n, rows, asked), [[0]] * 12)

    def test_others_do(self):
        for text, cord in (("a;a;c", "aB"), ("a;;c", "b"), ("a;;c", "bbb"), ("aa;aaa;c", "aaaBB"), ("ab;BA;c", "ab"),
                           ("ab;abab;c", "aaB"), ("a;aa;b", "abAB"), (";;", "abc")):
            self.assertEqual(ask(exchange(text), onto(), taut(cord), turn(1, cord)),
                             [[0], [0, 0], told_as(cord), [0]], text)


class Turn(unittest.TestCase):
    def test_ordinary(self):
        for n, text, times, cord, answer in (
                (3, "ab;b;c", 0, "a", "a"), (3, "ab;b;c", 1, "a", "ab"), (3, "ab;b;c", 2, "a", "abb"),
                (3, "ab;b;c", 1, "A", "BA"), (3, "ab;b;c", 2, "cA", "cBBA"), (3, "ab;b;c", 1, "aB", "a"),
                (3, "ab;b;c", 64, "a", "a" + "b" * 64), (3, "b;c;a", 1, "abcABC", "bcaBCA"),
                (3, "b;c;a", 3, "abcABC", "abcABC"), (3, "b;c;a", 64, "aB", "bC"), (3, "B;A;C", 1, "abc", "BAC"),
                (2, "aba;B", 1, "aBA", "ababABA"), (1, "A", 1, "aaa", "AAA"), (1, "A", 64, "aaa", "aaa"),
                (1, "aa", 5, "A", "A" * 32), (2, "ab;a", 6, "a", "abaababaabaababaababa"),
                (6, "b;c;d;e;f;a", 2, "abcdef", "cdefab")):
            self.assertEqual(ask(fingers(n), exchange(text), turn(times, cord))[2], told_as(answer),
                             (text, times, cord))

    def test_great_letters_get_the_row_turned_back(self):
        self.assertEqual(ask(exchange("abC;Bc;a"), turn(1, "A"), turn(1, "B"), turn(1, "C"), turn(1, "aA"),
                             turn(1, "BA")),
                         [[0], told_as("cBA"), told_as("Cb"), told_as("A"), [0], told_as("CbcBA")])

    def test_rows_told_that_are_not_taut(self):
        self.assertEqual(ask(exchange("abBA;aAb;cbBC"), turn(1, "abc"), turn(1, "aCa"), turn(2, "bb")),
                         [[0], told_as("b"), [0], told_as("bb")])

    def test_no_times_pulls_taut_alone(self):
        for n in range(1, 7):
            cords = list(some_cords(n, 10, 30, n))
            rows = [taut_cord(n, 4, place) for place in range(n)]
            found = ask_of_exchange(n, rows, [turn(0, cord) for cord in cords])
            self.assertEqual(found, [told_as(slow_taut(cord)) for cord in cords])

    def test_as_the_document_tells(self):
        chance = random.Random(3)
        for n in range(1, 7):
            for longest in (1, 2, 5, 100 // n):
                rows = list(some_cords(n, n, longest, chance.random()))
                cords = list(some_cords(n, 12, 12, chance.random()))
                for times in (1, 2, 3):
                    asked = [turn(times, cord) for cord in cords]
                    for cord, answer in zip(cords, ask_of_exchange(n, rows, asked)):
                        exchanged = slow_exchanged_times(rows, times, cord)
                        self.assertEqual(answer, [-6] if exchanged is None else told_as(exchanged),
                                         (rows, times, cord))

    def test_cords_longer_than_a_few_turns(self):
        """Rows of which much is pulled out where they meet, also some turns further on."""
        for n, rows in ((2, ["bbbaBBB", "b"]), (2, ["bbbbbaBBBBB", ""]), (3, ["abc", "CBA", "cab"]),
                        (2, ["ababab", "BABABA"]), (3, ["aab", "BAAc", "Cb"]), (1, ["A"]),
                        (6, ["fa", "Fbf", "c", "dcD", "", "f"])):
            cords = [taut_cord(n, length, length) for length in (15, 31, 32, 33, 63, 64, 65, 100, 150)]
            cords += ["ab"[:n] * 60, "aB"[:n] * 61, "a" * 97]
            for times in (1, 2):
                found = ask_of_exchange(n, rows, [turn(times, cord) for cord in cords])
                for cord, answer in zip(cords, found):
                    exchanged = slow_exchanged_times(rows, times, cord)
                    self.assertEqual(answer, [-6] if exchanged is None else told_as(exchanged), (rows, times, cord))

    def test_k_times_is_once_k_times_over(self):
        for n, rows in many_onto():
            if sum(map(len, rows)) > 5 * n:
                continue
            cord = taut_cord(n, 6, n)
            for times in range(1, 6):
                found = ask_of_exchange(n, rows, [turn(times - 1, cord), turn(times, cord)])
                if found[1] != [-6]:
                    again = ask_of_exchange(n, rows, [turn(1, text_of(found[0]))])
                    self.assertEqual(again, found[1:], rows)

    def test_a_finger_with_an_empty_cord(self):
        self.assertEqual(ask(exchange("a;;c"), turn(1, "abc"), turn(1, "bBb"), turn(1, "abA"), turn(0, "b"),
                             turn(64, "aBc"), onto()),
                         [[0], told_as("ac"), [0], [0], told_as("b"), told_as("ac"), [0, 0]])
        self.assertEqual(ask(exchange(";a;b"), turn(1, "c"), turn(2, "c"), turn(3, "c"), turn(4, "c"), turn(1, "abc")),
                         [[0], told_as("b"), told_as("a"), [0], [0], told_as("ab")])
        self.assertEqual(ask(exchange(";;"), turn(1, "abc"), turn(0, "abc"), turn(64, "C")),
                         [[0], [0], told_as("abc"), [0]])

    def test_each_finger_alone(self):
        for n in range(1, 7):
            for place in range(n):
                rows = ["a"] * n
                rows[place] = "abcdef"[:n]
                asked = [turn(1, letter) for letter in letters(n)]
                self.assertEqual(ask_of_exchange(n, rows, asked),
                                 [told_as(slow_exchanged(rows, letter)) for letter in letters(n)])

    def test_the_exchange_told_is_not_changed_by_turning(self):
        self.assertEqual(ask(exchange("ab;b;c"), turn(5, "a"), turn(1, "a"), turn(5, "a"), exchange("ba;b;c"),
                             turn(1, "a"), turn(5, "a")),
                         [[0], told_as("abbbbb"), told_as("ab"), told_as("abbbbb"), [0], told_as("ba"),
                          told_as("bbbbba")])

    def test_a_letter_of_more_fingers(self):
        self.assertEqual(ask(fingers(2), exchange(every_finger(2)), turn(1, "abc"), turn(65, "abc")),
                         [[0], [0], [-1002], [-2]])


class GrowsTooLong(unittest.TestCase):
    def test_at_the_first_exchange(self):
        self.assertEqual(ask(GROWING, turn(1, "a" * 1000), turn(1, "a" * 1000 + "b"), turn(1, "a" * 1001),
                             turn(1, "a" * 999 + "bb"), turn(1, "a" * 999 + "bbb")),
                         [[0], told_as("a" * 2000), [-6], [-6], told_as("a" * 1998 + "bb"), [-6]])

    def test_later(self):
        self.assertEqual(ask(GROWING, turn(4, "a" * 125), turn(4, "a" * 125 + "b"), turn(3, "a" * 125 + "b"),
                             turn(5, "a" * 125), turn(64, "a" * 125), turn(10, "a"), turn(11, "a")),
                         [[0], told_as("a" * 2000), [-6], told_as("a" * 1000 + "b"), [-6], [-6],
                          told_as("a" * 1024), [-6]])
        self.assertEqual(ask(exchange("ab;b;c"), turn(64, "a" + "c" * 1935), turn(64, "a" + "c" * 1936),
                             turn(63, "a" + "c" * 1936)),
                         [[0], told_as("a" + "b" * 64 + "c" * 1935), [-6], told_as("a" + "b" * 63 + "c" * 1936)])

    def test_pulled_taut(self):
        """What counts is what's left, not what's put in."""
        self.assertEqual(ask(exchange("ab;B;c"), turn(1, "ab" * 1000), turn(1, "a" * 1000), turn(1, "a" * 1001)),
                         [[0], told_as("a" * 1000), told_as("ab" * 1000), [-6]])
        self.assertEqual(ask(exchange("bbbbaBBBB;b;c"), turn(1, "a" * 1992), turn(1, "a" * 1993), turn(2, "a" * 1984),
                             turn(2, "a" * 1985)),
                         [[0], told_as("b" * 4 + "a" * 1992 + "B" * 4), [-6],
                          told_as("b" * 8 + "a" * 1984 + "B" * 8), [-6]])
        self.assertEqual(ask(GROWING, turn(1, "aA" * 1000), turn(64, "aA" * 1000), turn(1, "aA" * 999 + "aa")),
                         [[0], [0], [0], told_as("aaaa")])

    def test_also_if_it_would_be_short_again(self):
        self.assertEqual(ask(SHRINKING, turn(1, "a" * 666), turn(2, "a" * 666), turn(64, "a" * 666),
                             turn(1, "a" * 667), turn(2, "a" * 667), turn(64, "a" * 667)),
                         [[0], told_as("b" * 1998), [0], [0], [-6], [-6], [-6]])

    def test_also_if_it_would_be_short_again_later(self):
        self.assertEqual(ask(SHRINKING, turn(1, "c" * 667), turn(2, "c" * 667), turn(3, "c" * 667), turn(64, "c" * 667),
                             turn(2, "c" * 666), turn(3, "c" * 666), turn(64, "c" * 666)),
                         [[0], told_as("a" * 667), [-6], [-6], [-6], told_as("b" * 1998), [0], [0]])

    def test_never_for_no_times(self):
        for call in (GROWING, SHRINKING, exchange("a" * 100 + ";;")):
            self.assertEqual(ask(call, turn(0, "a" * 2000), turn(0, "aA" * 1000), turn(1, "a" * 2000)),
                             [[0], told_as("a" * 2000), [0], [-6]])

    def test_never_for_no_times_long_cords_of_all_fingers(self):
        cord = taut_cord(6, 2000, 5)
        rows = [taut_cord(6, 16, place) for place in range(6)]
        self.assertEqual(ask_of_exchange(6, rows, [turn(0, cord), turn(1, cord)]), [told_as(cord), [-6]])


if __name__ == "__main__":
    unittest.main()
