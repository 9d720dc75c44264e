"""Promise 3: what the moves make is told to be made, and nothing else; each in just one way by the basis."""

import itertools
import random
import unittest

from support import (all_cords, ask, ask_of_moves, basis, fingers, member, moves, size, slow_all_made, slow_back,
                     slow_basis, slow_graph, slow_multiplied, slow_size, slow_taut, slow_ways, slow_written,
                     some_cords, taut_cord, text_of, told_as, write)

# Moves with what else hangs on the order in which knots are found and free threads are numbered.
IN_AN_ORDER = (
    (2, "aa;b", "b;aa"),
    (2, "BB;aa", "aa;bb"),
    (2, "aBa;b", "b;AbA"),
    (3, "C;b", "b;c"),
    (3, "cB;a", "a;cB"),
    (3, "AB;c", "ba;c"),
    (2, "AAA;ba;bb", "ba;aaa;Ab"),
)


def many_moves():
    """Pairs of n and moves."""
    found = [(2, "aa;ab"), (3, "aa;ab"), (1, "a"), (1, "aaaa;aaaaaa"), (2, "aa;ab;bA"), (2, "aaa;b;abA;aabAA"),
             (2, "abAB"), (2, "a;b"), (2, "abA;abbA"), (3, "abc;abC;Cab"), (2, "abAB;baBA"), (6, "fe;dcb;afA;"),
             (2, "aab;aab"), (2, "aab;BAA"), (2, "aA;abBA"), (2, "ab;ba;aabb"), (4, "abcd;dcba;;aA"), (1, "aA")]
    found = [(n, text.split(";")) for n, text in found] + [(3, [])]
    chance = random.Random(7)
    for n in range(1, 7):
        for longest in (2, 4, 9):
            for how_many in range(1, 7):
                found.append((n, list(some_cords(n, how_many, longest, chance.random()))))
    for n in range(2, 7):
        found.append((n, [taut_cord(n, 12, chance.random()) for _ in range(5)]))
    return found


def products(cords, how_many, parts, seed):
    """Some moves and moves turned back, one behind the other."""
    chance = random.Random(seed)
    both_ways = list(cords) + [slow_back(cord) for cord in cords]
    for _ in range(how_many if cords else 0):
        yield "".join(chance.choice(both_ways) for _ in range(chance.randint(0, parts)))


def cords_to_ask_of(n, cords):
    found = list(products(cords, 20, 8, len(cords))) + list(some_cords(n, 20, 8, 8)) + list(all_cords(n, 1))
    return found + [cord[:-1] for cord in cords] + [cord + "a" for cord in cords]


def basis_of(n, cords):
    """The basis as a list of texts, behind moves (or with none told)."""
    ahead = [moves(";".join(cords))] if cords else []
    text = text_of(ask(fingers(n), *ahead, basis())[-1])
    return text.split(";") if text else []


class Made(unittest.TestCase):
    def test_ordinary(self):
        for n, text, made, not_made in (
                (2, "aa;ab", ["aa", "ab", "Ba", "Baab", "BA", "", "abab", "AA", "aabBAA"],
                 ["a", "b", "bA", "aB", "ba", "aaa", "aba"]),
                (1, "aaaa;aaaaaa", ["aa", "AA", "aaaaaaaa", ""], ["a", "aaa", "A", "aaaaa"]),
                (2, "abAB", ["abAB", "baBA", "abABabAB", ""], ["abAb", "BabA", "ab", "aBAb", "a"]),
                (3, "a;b", ["a", "b", "abAB", "bAAAb"], ["c", "acA", "abC"]),
                (2, "abA;abbA", ["abA", "aBA", "abbbA"], ["b", "a", "ab", "bA"]),
                (2, "aab;b", ["aa", "aabaab", "Baab"], ["a", "aba", "abA"])):
            cords = text.split(";")
            found = ask_of_moves(n, cords, [call(cord) for cord in made for call in (member, write)])
            self.assertEqual(found[::2], [[0, 1]] * len(made), text)
            self.assertEqual([answer[0] for answer in found[1::2]], [0] * len(made), text)
            found = ask_of_moves(n, cords, [call(cord) for cord in not_made for call in (member, write)])
            self.assertEqual(found, [[0, 0], [-5]] * len(not_made), text)

    def test_just_what_the_words_make(self):
        """Held against all products of moves, gone through with no graph."""
        for n, text, longest, asked in ((2, "aa;ab", 8, 4), (2, "abAB", 8, 5), (2, "aab;ba", 9, 4),
                                        (1, "aaa;aaaaa", 9, 5),
                                        (2, "aaa;b;abA", 8, 4), (3, "ab;bc", 6, 3), (3, "abc;cb", 8, 3),
                                        (2, "abA;bb", 8, 4), (2, "aba;bab", 9, 4), (2, "aBa;ab;aA", 8, 4),
                                        (2, "aabb;ab", 9, 4), (4, "abcd;DC", 6, 2), (2, "ab;ab;BA", 8, 4)):
            made = slow_all_made(text.split(";"), longest)
            cords = list(all_cords(n, asked))
            found = ask_of_moves(n, text.split(";"), [member(cord) for cord in cords])
            for cord, answer in zip(cords, found):
                self.assertEqual(answer, [0, 1 if slow_taut(cord) in made else 0], (text, cord))

    def test_all_products_are_made_and_all_else_is_not(self):
        for n, cords in many_moves():
            asked = cords_to_ask_of(n, cords)
            found = ask_of_moves(n, cords, [member(cord) for cord in asked])
            for cord, answer in zip(asked, found):
                self.assertEqual(answer, [0, 0 if slow_written(cords, cord) is None else 1], (cords, cord))
            made = list(products(cords, 20, 12, 9))
            self.assertEqual(ask_of_moves(n, cords, [member(cord) for cord in made]), [[0, 1]] * len(made), cords)

    def test_moves_that_pull_taut_to_nothing(self):
        for text in ("", "aA", "abBA;;bB", ";;;;;", "aA;bB;cC;;aAaA;CcBb"):
            self.assertEqual(ask(moves(text), member(""), member("aA"), member("a"), member("ab"), size(), basis(),
                                 write("aA"), write("a"))[1:],
                             [[0, 1], [0, 1], [0, 0], [0, 0], [0, 0, 1, 0], [0], [0], [-5]], text)

    def test_empty_moves_beside_others_add_nothing(self):
        self.assertEqual(ask(moves("aA;aa;;ab;bB"), basis(), size(), write("Ba")),
                         [[0, 5], told_as("aa;ab"), [0, 2, 2, 0], [0, -2, 1]])

    def test_moves_that_add_nothing(self):
        """The same move twice, one turned back, and one made of the others."""
        for text in ("aa;ab", "aa;ab;aa", "aa;ab;ab;aa;ab;aa", "aa;ab;AA", "aa;ab;BA;AA", "aa;ab;Ba", "aa;ab;abaaab",
                     "aa;ab;aaabbBBA", "aaab;BA", "aa;bBab"):
            found = ask(moves(text), basis(), size(), member("a"), write("Ba"))
            self.assertEqual(found[1:], [told_as("aa;ab"), [0, 2, 2, 0], [0, 0], [0, -2, 1]], text)
        self.assertEqual(ask(moves("aaaab;BA;aaa"), basis(), size(), member("a"), write("Ba"))[1:],
                         [told_as("aaa;ab"), [0, 2, 3, 0], [0, 0], [-5]])

    def test_letters_the_moves_lack(self):
        self.assertEqual(ask(fingers(6), moves("aa;ab"), member("f"), member("fF"), write("efFEaa"), write("c"))[2:],
                         [[0, 0], [0, 1], [0, 1], [-5]])


class Told(unittest.TestCase):
    """What write tells, and the basis."""

    def test_ordinary(self):
        self.assertEqual(ask(moves("aa;ab"), write("aa"), write("AA"), write("ab"), write("BA"), write("aaaa"),
                             write("aB"), write("abaabA"), write("abBA"), write("aaab"), write("Baaa"))[1:],
                         [[0, 1], [0, -1], [0, 2], [0, -2], [0, 1, 1], [-5], [-5], [0], [0, 1, 2], [0, -2, 1, 1]])
        self.assertEqual(ask(moves("AAA;ba;bb"), write("bb"), write("bbb"), write("aaa"), write("bAA"), write("Baaab"),
                             write("bAb"), write("BaB"), write("Baaa"))[1:],
                         [[0, 1, 3], [-5], [0, 2], [0, 1, -2], [0, -3, 2, 3], [-5], [-5], [-5]])

    def test_each_cord_of_the_basis_is_itself(self):
        for n, cords in many_moves():
            found = basis_of(n, cords)
            asked = [call(cord) for cord in found for call in (member, write)]
            self.assertEqual(ask_of_moves(n, cords, asked),
                             [answer for number in range(1, len(found) + 1) for answer in ([0, 1], [0, number])], cords)

    def test_what_is_told_multiplied_out_is_the_cord_again(self):
        for n, cords in many_moves():
            parts = basis_of(n, cords)
            asked = cords + list(products(cords, 25, 10, 11)) + [slow_back(cord) for cord in cords]
            for cord, answer in zip(asked, ask_of_moves(n, cords, [write(cord) for cord in asked])):
                self.assertEqual(answer[0], 0, (cords, cord))
                self.assertEqual(slow_multiplied(parts, answer[1:]), slow_taut(cord), (cords, cord))

    def test_no_thread_is_passed_and_passed_back_at_once(self):
        for n, cords in many_moves():
            asked = list(products(cords, 25, 10, 12))
            for cord, answer in zip(asked, ask_of_moves(n, cords, [write(cord) for cord in asked])):
                for one, other in zip(answer[1:], answer[2:]):
                    self.assertNotEqual(one, -other, (cords, cord))

    def test_in_one_way(self):
        """Any row of numbers with none undone at once is the very one that's told of its product."""
        chance = random.Random(13)
        for n, cords in many_moves():
            parts = basis_of(n, cords)
            rows = []
            for _ in range(20 if parts else 0):
                told = []
                for _ in range(chance.randint(0, 9)):
                    number = chance.choice([-1, 1]) * chance.randint(1, len(parts))
                    if not told or told[-1] != -number:
                        told.append(number)
                rows.append(told)
            asked = [write(slow_multiplied(parts, told)) for told in rows]
            self.assertEqual(ask_of_moves(n, cords, asked), [[0] + told for told in rows], cords)

    def test_as_the_document_tells(self):
        for n, cords in many_moves():
            asked = cords_to_ask_of(n, cords)
            for cord, answer in zip(asked, ask_of_moves(n, cords, [write(cord) for cord in asked])):
                told = slow_written(cords, cord)
                self.assertEqual(answer, [-5] if told is None else [0] + told, (cords, cord))

    def test_cords_that_are_not_taut(self):
        for n, cords in many_moves():
            loose = [taut_one + "bBaA"[:4 if n > 1 else 0] + "aA" for taut_one in products(cords, 5, 4, 14)]
            tight = [slow_taut(cord) for cord in loose]
            for call in (member, write):
                self.assertEqual(ask_of_moves(n, cords, [call(cord) for cord in loose]),
                                 ask_of_moves(n, cords, [call(cord) for cord in tight]))


class Sizes(unittest.TestCase):
    def test_ordinary(self):
        for n, text, answer in ((3, "aa;ab", [2, 2, 0]), (2, "aa;ab", [2, 2, 0]), (2, "aa;ab;bA", [3, 2, 2]),
                                (3, "aa;ab;bA", [3, 2, 0]), (1, "a", [1, 1, 1]), (2, "a", [1, 1, 0]),
                                (1, "aaa", [1, 3, 3]), (2, "a;b", [2, 1, 1]), (3, "a;b", [2, 1, 0]),
                                (2, "aaa;b;abA;aabAA", [4, 3, 3]), (2, "abAB", [1, 4, 0]), (2, "abA", [1, 2, 0]),
                                (1, "aaaa;aaaaaa", [1, 2, 2]), (3, "", [0, 1, 0]), (1, "aA", [0, 1, 0]),
                                (3, "ab;c;b", [3, 1, 1]), (6, "a;b;c;d;e;f", [6, 1, 1]), (6, "a;b;c;d;e", [5, 1, 0]),
                                (2, "aabb;bbaa", [2, 7, 0])):
            self.assertEqual(ask(fingers(n), moves(text), size())[2], [0] + answer, (n, text))

    def test_as_the_document_tells(self):
        for n, cords in many_moves():
            self.assertEqual(ask_of_moves(n, cords, [size()]) if cords else ask(fingers(n), size())[1:],
                             [[0] + slow_size(cords, n)], (n, cords))

    def test_with_the_basis(self):
        for n, cords in many_moves():
            told, free = ask_of_moves(n, cords, [size(), basis()])
            parts = text_of(free).split(";") if free[1:] else []
            self.assertEqual(told[1], len(parts), cords)
            self.assertTrue(all(parts), cords)
            if told[3]:
                self.assertEqual(told[3], told[2], cords)
                self.assertEqual(told[1], 1 + told[2] * (n - 1), cords)

    def test_never_more_free_threads_than_moves(self):
        for n, cords in many_moves():
            self.assertLessEqual(ask_of_moves(n, cords, [size()])[0][1], len(cords), cords)

    def test_how_many_knots_if_each_turn_leads_on(self):
        """Then so many cords, no more, do: what's before any cord, and each of them makes it a made one."""
        for n, text, many in ((2, "aa;ab;bA", 2), (2, "aaa;b;abA;aabAA", 3), (1, "aaaaa", 5)):
            cords = text.split(";")
            ways = list(slow_ways(slow_graph(cords))[0].values())
            self.assertEqual(len(ways), many)
            for cord in all_cords(n, 3):
                found = ask_of_moves(n, cords, [member(cord + slow_back(way)) for way in ways])
                self.assertEqual(sorted(found), [[0, 0]] * (many - 1) + [[0, 1]], (text, cord))


class InOrder(unittest.TestCase):
    def test_the_very_basis(self):
        for n, text, answer in IN_AN_ORDER:
            self.assertEqual(ask(fingers(n), moves(text), basis())[2], told_as(answer), text)

    def test_more_of_them(self):
        for n, text, answer in ((2, "aa;ab;bA", "bA;aa;ab"), (2, "b;a", "a;b"), (2, "B;A", "a;b"), (2, "ba;b", "a;b"),
                                (1, "aaaa;aaaaaa", "aa"), (1, "AAA", "aaa"), (2, "abA;abbA", "abA"),
                                (2, "aaa;b;abA;aabAA", "b;aaa;abA;Aba"), (2, "abAB", "baBA"),
                                (2, "baBA", "baBA"), (2, "", ""), (3, "cba", "cba"), (3, "ABC", "cba"),
                                (2, "aabb", "aabb"), (2, "BBAA", "aabb")):
            self.assertEqual(ask(fingers(n), moves(text), basis())[2], told_as(answer), text)

    def test_as_the_document_tells(self):
        for n, cords in many_moves():
            self.assertEqual(basis_of(n, cords), slow_basis(cords), (n, cords))

    def test_numbers_are_those_of_the_basis(self):
        for n, text, answer in IN_AN_ORDER:
            for number, cord in enumerate(answer.split(";"), start=1):
                self.assertEqual(ask(fingers(n), moves(text), write(cord), write(slow_back(cord)))[2:],
                                 [[0, number], [0, -number]], text)

    def test_told_in_another_order(self):
        for text in ("aa;ab;bA", "AAA;ba;bb", "aab;bba;aBa", "abc;cab;ca"):
            for cords in itertools.permutations(text.split(";")):
                found = ask(moves(";".join(cords)), basis(), size())
                self.assertEqual(found, ask(moves(text), basis(), size()), cords)

    def test_moves_that_make_the_same_cords(self):
        """Turned back, told in another order, one put behind another: the graph that's left is the same."""
        chance = random.Random(15)
        for n, cords in many_moves():
            once = ask_of_moves(n, cords, [basis(), size()])
            other = [chance.choice([cord, slow_back(cord)]) for cord in cords]
            chance.shuffle(other)
            self.assertEqual(ask_of_moves(n, other, [basis(), size()]), once, (cords, other))
            if len(other) > 1:
                other[0] = slow_taut(other[0] + other[1])
                other[-1] = slow_taut(slow_back(other[0]) + other[-1])
                self.assertEqual(ask_of_moves(n, other, [basis(), size()]), once, (cords, other))

    def test_threads_made_one_in_another_order(self):
        """The document's words done in orders that hang on chance leave the graph that's answered of."""
        for n, cords in many_moves():
            if sum(map(len, cords)) > 30:
                continue
            found = ask_of_moves(n, cords, [basis(), size()]) if cords else ask(fingers(n), basis(), size())[1:]
            for seed in range(4):
                threads = slow_graph(cords, random.Random(seed))
                ways, free = slow_ways(threads)
                parts = [slow_taut(ways[leaves] + letter + slow_back(ways[comes])) for leaves, letter, comes in free]
                self.assertEqual(found[0], told_as(";".join(parts)), cords)
                self.assertEqual(found[1][1:3], [len(free), len(ways)], cords)

    def test_the_basis_told_as_moves_is_the_basis_again(self):
        for n, cords in many_moves():
            parts = basis_of(n, cords)
            if parts and sum(map(len, parts)) <= 100:
                self.assertEqual(basis_of(n, parts), parts, cords)


if __name__ == "__main__":
    unittest.main()
