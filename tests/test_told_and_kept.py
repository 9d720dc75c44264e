"""Calls 11 to 18 told wrongly, or on the edge of it; and what an object keeps from call to call."""

import unittest

from support import (FAR, ask, basis, every_finger, exchange, fingers, member, moves, onto, size, taut, told_as, turn,
                     write)

BOTH = {"moves": moves, "exchange": exchange}


class CordsBetweenSemicolons(unittest.TestCase):
    """With three fingers, so that texts of three cords are taken by both calls."""

    def both(self, text, answer):
        for name, call in BOTH.items():
            self.assertEqual(ask(call(text)), [answer], name)

    def both_take(self, text):
        for name, call in BOTH.items():
            self.assertEqual(ask(call(text))[0][0], 0, name)

    def test_semicolons_are_no_fault(self):
        for text in (";;", "a;;", ";a;", ";;a", "a;b;c", "abC;;CBA", "aA;bB;cC"):
            self.both_take(text)

    def test_too_long(self):
        for size_told in (2001, 2002, 2050, 2099, 2100):
            self.both("a" * size_told, [-8])
            self.both(";" * size_told, [-8])
            self.both("a;" * (size_told // 2) + "a" * (size_told % 2), [-8])

    def test_semicolons_count_among_the_bytes(self):
        self.both("a" * 1998 + ";;", [-4])
        self.both("a" * 1999 + ";;", [-8])

    def test_two_thousand_bytes_are_not_too_long(self):
        for text in ("a" * 2000, ";" * 2000, "a;" * 1000, "aA" * 1000):
            self.both(text, [-4])
        self.both("a" * 1999 + "?", [-2999])

    def test_too_long_goes_before_the_place_of_a_fault(self):
        for text in ("?" + "a" * 2000, "?" * 2001, "?" + ";" * 2000, "a" * 2000 + "?", "?" * 2100):
            self.both(text, [-8])

    def test_the_place_in_the_whole_text(self):
        for text, place in (("?", 0), ("?a;b;c", 0), ("a?;b;c", 1), ("ab;c?;", 4), ("a;?;c", 2), ("a;b;?", 4),
                            (";?;", 1), (";;?", 2), ("?;;", 0), ("aA;bB;cC?", 8), ("a;b;c;d", 6), ("ab;cd;e", 4),
                            ("a;b;c\n", 5), ("a:b;c", 1), (" a;b;c", 0), ("a; b;c", 2)):
            self.both(text, [-1000 - place])

    def test_the_first_of_several_faults(self):
        self.both("a;?;!", [-1002])
        self.both("??;?;?", [-1000])

    def test_the_fault_goes_before_how_many(self):
        self.both(";;;;;;;?", [-1007])
        self.both("a" * 101 + "?;;", [-1101])
        self.both(";" * 1000 + "a" * 500 + "?", [-2500])
        self.both("?", [-1000])

    def test_every_byte(self):
        for n in (1, 3, 6):
            right = "abcdef"[:n] + "ABCDEF"[:n] + ";"
            for byte in range(256):
                found = ask(fingers(n), moves([97, byte]))[1]
                if chr(byte) in right:
                    self.assertEqual(found, [0, 2 if byte == 59 else 1], byte)
                else:
                    self.assertEqual(found, [-1001], byte)
                found = ask(fingers(n), exchange([59] * (n - 1) + [97, byte]))[1]
                if chr(byte) in right:
                    self.assertEqual(found, [-4] if byte == 59 else [0], byte)
                else:
                    self.assertEqual(found, [-1000 - n], byte)

    def test_a_letter_of_more_fingers(self):
        for n in range(1, 6):
            beyond = "abcdef"[n]
            for letter in (beyond, beyond.upper()):
                self.assertEqual(ask(fingers(n), moves("a;" + letter), exchange(";" * (n - 1) + letter))[1:],
                                 [[-1002], [-1000 - (n - 1)]])
                self.assertEqual(ask(fingers(n + 1), moves("a;" + letter), exchange(";" * n + letter))[1:],
                                 [[0, 2], [0]])


class HowManyMoves(unittest.TestCase):
    def test_how_many(self):
        for text, many in (("", 1), ("a", 1), (";", 2), ("a;", 2), (";a", 2), ("a;b", 2), (";;;;;", 6),
                           ("a;b;c;a;b;c", 6), ("aA", 1), ("aA;bB", 2), ("a;a;a", 3)):
            self.assertEqual(ask(moves(text)), [[0, many]], text)

    def test_too_many(self):
        for text in (";;;;;;", ";;;;;;;", "a;b;c;a;b;c;a", "a;a;a;a;a;a;a", "a;;;;;;", ";" * 100):
            self.assertEqual(ask(moves(text)), [[-4]], text)

    def test_turns_together_as_told(self):
        for text in ("a" * 100, "aA" * 50, "a" * 50 + ";" + "b" * 50, "a" * 95 + ";b;b;b;b;b",
                     ";;;;;" + "abC" * 33 + "a", "aA" * 25 + ";;" + "a" * 50):
            self.assertEqual(ask(moves(text))[0], [0, 1 + text.count(";")], text)
        for text in ("a" * 101, "aA" * 50 + "a", "aA" * 51, "a" * 50 + ";" + "b" * 51, "a" * 96 + ";b;b;b;b;b",
                     ";;;;;" + "abC" * 33 + "ab", "aA" * 25 + ";;" + "a" * 51, "a" * 2000):
            self.assertEqual(ask(moves(text)), [[-4]], text)

    def test_any_number_of_fingers(self):
        for n in range(1, 7):
            self.assertEqual(ask(fingers(n), moves("a;A;aa;;a;a"), moves("a;A;aa;;a;a;"))[1:], [[0, 6], [-4]])


class HowManyOfAnExchange(unittest.TestCase):
    def test_one_for_each_finger(self):
        for n in range(1, 7):
            for many in range(1, 9):
                text = ";".join(["a"] * many)
                self.assertEqual(ask(fingers(n), exchange(text), exchange(";" * (many - 1)))[1:],
                                 [[0], [0]] if many == n else [[-4], [-4]], (n, many))

    def test_an_empty_text_is_one_empty_cord(self):
        self.assertEqual(ask(fingers(1), exchange(""), turn(1, "aaa"), turn(0, "aaa"), onto())[1:],
                         [[0], [0], told_as("aaa"), [0, 0]])
        for n in range(2, 7):
            self.assertEqual(ask(fingers(n), exchange(""))[1], [-4])

    def test_turns_together_as_told(self):
        for text in ("a" * 100 + ";;", "aA" * 50 + ";;", "a" * 98 + ";b;c", ";" + "bB" * 25 + ";" + "c" * 50):
            self.assertEqual(ask(exchange(text)), [[0]], text)
        for text in ("a" * 101 + ";;", "aA" * 50 + "a;;", "aA" * 51 + ";;", "a" * 99 + ";b;c",
                     ";" + "bB" * 25 + ";" + "c" * 51):
            self.assertEqual(ask(exchange(text)), [[-4]], text)


class Times(unittest.TestCase):
    def test_out_of_range(self):
        for wrong in (-1, -2, 65, 66, 1000, FAR, -FAR):
            self.assertEqual(ask(turn(wrong, "a"), turn(wrong, "")), [[-2], [-2]], wrong)

    def test_in_range(self):
        for times in range(65):
            self.assertEqual(ask(turn(times, "abBc")), [told_as("ac")], times)

    def test_the_number_goes_before_the_cord(self):
        for wrong in (-1, 65, FAR, -FAR):
            for cord in ("?", "a;b", "a" * 2001, "?" * 2100):
                self.assertEqual(ask(turn(wrong, cord)), [[-2]])

    def test_the_cord_goes_before_growing_too_long(self):
        growing = exchange("aa;b;c")
        self.assertEqual(ask(growing, turn(64, "a"), turn(64, "a?"), turn(64, "a" * 2001), turn(64, "a" * 1999 + "?")),
                         [[0], [-6], [-1001], [-8], [-2999]])


class Write(unittest.TestCase):
    def test_the_cord_goes_before_what_is_not_made(self):
        self.assertEqual(ask(moves("aa"), write("a"), write("a?"), write("a" * 2001), write("?" * 2100), write("?")),
                         [[0, 1], [-5], [-1001], [-8], [-8], [-1000]])

    def test_before_any_moves(self):
        self.assertEqual(ask(write("a"), write(""), write("aA"), write("d")), [[-5], [0], [0], [-1000]])


class Kept(unittest.TestCase):
    def test_no_moves_before_any_are_told(self):
        for n in range(1, 7):
            self.assertEqual(ask(fingers(n), member(""), member("aA"), member("a"), size(), basis(), write(""))[1:],
                             [[0, 1], [0, 1], [0, 0], [0, 0, 1, 0], [0], [0]])
        self.assertEqual(ask(member("abc"), size(), basis()), [[0, 0], [0, 0, 1, 0], [0]])

    def test_own_small_letters_before_an_exchange_is_told(self):
        for n in range(1, 7):
            cord = "abcdef"[:n] + "A"
            taut_one = ask(fingers(n), taut(cord))[1]
            self.assertEqual(ask(fingers(n), turn(0, cord), turn(1, cord), turn(64, cord), onto())[1:],
                             [taut_one, taut_one, taut_one, [0, 1]])
        self.assertEqual(ask(turn(1, "abCcc"), onto()), [told_as("abc"), [0, 1]])

    def test_told_anew(self):
        self.assertEqual(ask(moves("aa;ab"), basis(), moves("c"), basis(), member("aa"), moves(""), basis(), size()),
                         [[0, 2], told_as("aa;ab"), [0, 1], told_as("c"), [0, 0], [0, 1], [0], [0, 0, 1, 0]])
        self.assertEqual(ask(exchange("b;c;a"), turn(1, "abc"), exchange("aa;b;c"), turn(1, "abc"), turn(2, "a")),
                         [[0], told_as("bca"), [0], told_as("aabc"), told_as("aaaa")])

    def test_refused_moves_change_nothing(self):
        for wrong in (";;;;;;", "a" * 101, "a?", "a" * 2001, "?" * 2100, "aA" * 51, "d"):
            found = ask(moves("aa;ab"), moves(wrong), basis(), size(), member("Ba"), write("Ba"), member("a"))
            self.assertLess(found[1][0], 0)
            self.assertEqual(found[2:], [told_as("aa;ab"), [0, 2, 2, 0], [0, 1], [0, -2, 1], [0, 0]])

    def test_refused_exchanges_change_nothing(self):
        for wrong in ("", "a;b", "a;b;c;a", "a" * 99 + ";b;c", "a?;;", "a" * 2001, "?" * 2100, "d;;"):
            found = ask(exchange("ab;b;"), exchange(wrong), turn(2, "acB"), onto())
            self.assertLess(found[1][0], 0)
            self.assertEqual(found[2:], [told_as("ab"), [0, 0]])

    def test_other_refusals_change_nothing(self):
        self.assertEqual(ask(moves("aa;ab"), exchange("ab;b;"), turn(65, "a"), turn(1, "?"), write("a"), write("?"),
                             member("?"), taut("d"), basis(), turn(2, "acB"), onto(), size()),
                         [[0, 2], [0], [-2], [-1000], [-5], [-1000], [-1000], [-1000], told_as("aa;ab"),
                          told_as("ab"), [0, 0], [0, 2, 2, 0]])

    def test_growing_too_long_changes_nothing(self):
        self.assertEqual(ask(exchange("aa;b;c"), turn(11, "a"), turn(1, "a"), turn(10, "a"), onto()),
                         [[0], [-6], told_as("aa"), told_as("a" * 1024), [0, 0]])

    def test_fingers_takes_moves_and_exchange_away(self):
        for n in range(1, 7):
            own = every_finger(n)
            self.assertEqual(ask(fingers(3), moves("a;b"), exchange("b;c;a"), fingers(n), basis(), size(), member("a"),
                                 turn(1, "a"), onto(), moves(own), basis())[3:],
                             [[0], [0], [0, 0, 1, 0], [0, 0], told_as("a"), [0, 1], [0, n], told_as(own)])

    def test_fingers_told_as_they_are_take_them_away_too(self):
        self.assertEqual(ask(moves("a;b"), exchange("b;c;a"), fingers(3), basis(), turn(1, "a")),
                         [[0, 2], [0], [0], [0], told_as("a")])

    def test_refused_fingers_do_not(self):
        for wrong in (0, 7, -1, 64, FAR, -FAR):
            self.assertEqual(ask(fingers(2), moves("aa;ab"), exchange("b;a"), fingers(wrong), basis(), size(),
                                 turn(1, "abbA"), onto(), member("c"), exchange("a;b;c")),
                             [[0], [0, 2], [0], [-2], told_as("aa;ab"), [0, 2, 2, 0], told_as("baaB"), [0, 1],
                              [-1000], [-1004]])

    def test_moves_and_exchange_leave_one_another_alone(self):
        self.assertEqual(ask(exchange("b;c;a"), moves("aa;ab"), turn(1, "abc"), exchange("aa;b;c"), basis(),
                             moves("c"), turn(2, "a"), member("c"), member("a")),
                         [[0], [0, 2], told_as("bca"), [0], told_as("aa;ab"), [0, 1], told_as("aaaa"), [0, 1],
                          [0, 0]])

    def test_asked_again_the_answers_are_the_same(self):
        asked = [member("Ba"), size(), basis(), write("Ba"), turn(2, "ac"), onto()]
        found = ask(moves("aa;ab"), exchange("ab;b;C"), *asked, *asked)
        self.assertEqual(found[2:8], found[8:])

    def test_a_new_object_each_time(self):
        self.assertEqual(ask(moves("a;b;c"), exchange("b;c;a"), basis()), [[0, 3], [0], told_as("a;b;c")])
        self.assertEqual(ask(basis(), turn(1, "a"), member("a")), [[0], told_as("a"), [0, 0]])


if __name__ == "__main__":
    unittest.main()
