"""Lists of 200 calls of all kinds on one object, held against the document's words done slowly."""

import random
import unittest

from fingercord.cords import answers
from support import (FAR, MOST_SLOW_CALLS, LongCase, alike, basis, commute, exchange, falls, fingers, fits, join,
                     letters, make, member, moves, onto, ring, root, sets, size, slow_back, slow_basis,
                     slow_exchanged_times, slow_fits, slow_falls, slow_least_sets, slow_made, slow_power, slow_ring,
                     slow_size, slow_taut, slow_written, split, taut, turn, write)

BUILDERS = {"fingers": fingers, "taut": taut, "falls": falls, "sets": sets, "make": make, "fits": fits, "ring": ring,
            "alike": alike, "root": root, "commute": commute, "join": join, "moves": moves, "member": member,
            "size": size, "basis": basis, "write": write, "exchange": exchange, "turn": turn, "onto": onto}
SLOW_CALLS = ("size", "basis", "write", "member", "onto")
CALLS_IN_A_LINE = 200


class Refused(Exception):
    pass


class SlowHand:
    """One object, each call of which is a method that gives what stands behind 0."""

    def __init__(self):
        self.fingers(3)

    def answer(self, name, told):
        try:
            return [0] + getattr(self, name)(*told)
        except Refused as refused:
            return [refused.args[0]]

    def read(self, text, between=""):
        if len(text) > 2000:
            raise Refused(-8)
        for place, sign in enumerate(text):
            if sign not in letters(self.n) + between:
                raise Refused(-1000 - place)
        return text

    def read_many(self, text, holds):
        cords = self.read(text, ";").split(";")
        if not holds(len(cords)) or len(text) - text.count(";") > 100:
            raise Refused(-4)
        return cords

    def read_number(self, number, most):
        if not 0 <= number <= most:
            raise Refused(-2)

    def read_sets(self, told):
        if not 1 <= len(told) <= 12 or len(set(told)) < len(told) or not all(0 < one < 2 ** self.n for one in told):
            raise Refused(-3)

    def bytes_of(self, cord):
        return list(cord.encode("ascii"))

    def fingers(self, n):
        if n not in range(1, 7):
            raise Refused(-2)
        self.n = n
        self.cords = []
        self.rows = list("abcdef"[:n])
        return []

    def taut(self, cord):
        return self.bytes_of(slow_taut(self.read(cord)))

    def falls(self, let_go, cord):
        self.read_number(let_go, 2 ** self.n - 1)
        return [int(slow_falls(self.read(cord), let_go))]

    def sets(self, cord):
        return slow_least_sets(self.read(cord), self.n)

    def make(self, told):
        self.read_sets(told)
        return self.bytes_of(slow_made(told))

    def fits(self, told, cord):
        self.read_sets(told)
        return [int(slow_fits(told, self.read(cord), self.n))]

    def ring(self, cord):
        return self.bytes_of(slow_ring(self.read(cord)))

    def alike(self, one, other):
        self.read(one)
        return [int(slow_ring(one) == slow_ring(self.read(other)))]

    def root(self, cord):
        cord = slow_taut(self.read(cord))
        if not cord:
            return [0]
        # A root is a beginning of its power, but for an end of it that the power's end has, too.
        for times in range(len(cord), 0, -1):
            for length in range(1, len(cord) + 1):
                for end in range((length + 1) // 2):
                    of_what = cord[:length - end] + cord[len(cord) - end:]
                    if slow_power(of_what, times) == cord:
                        return [times] + self.bytes_of(slow_taut(of_what))

    def commute(self, one, other):
        self.read(one)
        return [int(slow_taut(one + self.read(other)) == slow_taut(other + one))]

    def join(self, one, other):
        self.read(one)
        return self.bytes_of(slow_taut(one + self.read(other)))

    def moves(self, text):
        self.cords = self.read_many(text, lambda many: many <= 6)
        return [len(self.cords)]

    def member(self, cord):
        return [int(slow_written(self.cords, self.read(cord)) is not None)]

    def size(self):
        return slow_size(self.cords, self.n)

    def basis(self):
        return self.bytes_of(";".join(slow_basis(self.cords)))

    def write(self, cord):
        told = slow_written(self.cords, self.read(cord))
        if told is None:
            raise Refused(-5)
        return told

    def exchange(self, text):
        self.rows = self.read_many(text, lambda many: many == self.n)
        return []

    def turn(self, times, cord):
        self.read_number(times, 64)
        cord = slow_exchanged_times(self.rows, times, self.read(cord))
        if cord is None:
            raise Refused(-6)
        return self.bytes_of(cord)

    def onto(self):
        return [int(slow_size(self.rows, self.n) == [self.n, 1, 1])]


class LineOfChance:
    """Calls told by chance, some of them wrongly, mostly about what the object has."""

    def __init__(self, seed):
        self.chance = random.Random(seed)
        self.hand = SlowHand()

    def cord(self, longest=8):
        chance = self.chance
        cord = "".join(chance.choice(letters(self.hand.n)) for _ in range(chance.randint(0, longest)))
        if chance.random() < 0.3 and self.hand.cords:
            parts = self.hand.cords + [slow_back(move) for move in self.hand.cords]
            cord = "".join(chance.choice(parts) for _ in range(chance.randint(1, 4)))
        if chance.random() < 0.05:
            place = chance.randint(0, len(cord))
            cord = cord[:place] + chance.choice(";?gG\n" + letters(6)) + cord[place:]
        return cord

    def long_text(self):
        return self.chance.choice(["a" * 1999 + "?", "a" * 2001, "aA" * 1000, ";" * 2000, "?" * 2100])

    def cords(self, right):
        chance = self.chance
        if chance.random() < 0.1:
            return chance.choice(["", ";;;;;", ";;;;;;", "a" * 101, "aA" * 50, "aA" * 50 + "a", "a;?;b"])
        many = right if chance.random() < 0.9 else chance.randint(1, 8)
        return ";".join(self.cord(4) for _ in range(many))

    def many_sets(self):
        if self.chance.random() < 0.1:
            return self.chance.choice([[], [0], [64], [1, 1], [-1], list(range(1, 14)), [FAR]])
        every = range(1, 2 ** self.hand.n)
        return self.chance.sample(every, self.chance.randint(1, min(4, len(every))))

    def number(self, most):
        if self.chance.random() < 0.1:
            return self.chance.choice([-1, most + 1, FAR, -FAR])
        return self.chance.randint(0, most)

    def told(self, name):
        hand = self.hand
        return {"fingers": lambda: [self.number(6)], "falls": lambda: [self.number(2 ** hand.n - 1), self.cord()],
                "make": lambda: [self.many_sets()], "fits": lambda: [self.many_sets(), self.cord()],
                "alike": lambda: [self.cord(), self.cord()], "commute": lambda: [self.cord(3), self.cord(3)],
                "join": lambda: [self.cord(), self.cord()], "moves": lambda: [self.cords(self.chance.randint(1, 4))],
                "size": lambda: [], "basis": lambda: [], "onto": lambda: [], "root": lambda: [self.cord(6)],
                "exchange": lambda: [self.cords(hand.n)],
                "turn": lambda: [self.chance.choice([self.number(3), self.number(64)]), self.cord(4)],
                }.get(name, lambda: [self.cord()])()

    def calls_and_answers(self):
        calls = []
        right = []
        slow = 0
        for _ in range(CALLS_IN_A_LINE):
            name = self.chance.choice(list(BUILDERS))
            if name == "fingers" and self.chance.random() < 0.6 or name in SLOW_CALLS and slow == MOST_SLOW_CALLS:
                name = self.chance.choice(["taut", "join", "moves", "turn", "exchange"])
            slow += name in SLOW_CALLS
            told = self.told(name)
            if name in ("taut", "moves", "exchange") and self.chance.random() < 0.03 and len(calls) < 8000:
                told = [self.long_text()]
            calls += BUILDERS[name](*told)
            right.append(self.hand.answer(name, told))
        return calls, right


class Lines(LongCase):
    def test_two_hundred_calls_one_behind_another(self):
        for seed in range(40):
            calls, right = LineOfChance(seed).calls_and_answers()
            self.assertLessEqual(len(calls), 17000)
            found = split(answers(calls))
            self.assertEqual(len(found), CALLS_IN_A_LINE)
            self.assertEqual(found, right, seed)

    def test_as_it_was_handed_in_and_a_second_run_answers_the_same(self):
        for seed in range(40, 50):
            calls, right = LineOfChance(seed).calls_and_answers()
            before = list(calls)
            first = answers(calls)
            self.assertEqual(calls, before)
            self.assertEqual(answers(calls), first)
            self.assertEqual(split(first), right)

    def test_each_call_is_told_and_each_refusal_answered(self):
        numbers = set()
        for seed in range(20):
            calls, right = LineOfChance(seed).calls_and_answers()
            numbers |= {answer[0] for answer in right}
        self.assertTrue({0, -2, -3, -4, -5, -6, -8, -1000} <= numbers, sorted(numbers))


if __name__ == "__main__":
    unittest.main()
