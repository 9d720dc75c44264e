"""What the tests share: calls put together, answers taken apart, and the document's
words done slowly over texts, apart from the program, to be held against its answers."""

import itertools
import random

from fingercord.cords import answers

IN_ORDER = "aAbBcCdDeEfF"
FAR = 1000000000000000000


def row(told):
    numbers = list(told.encode("latin-1")) if isinstance(told, str) else list(told)
    return [len(numbers)] + numbers


def fingers(n):
    return [0, n]


def taut(cord):
    return [1] + row(cord)


def falls(let_go, cord):
    return [2, let_go] + row(cord)


def sets(cord):
    return [3] + row(cord)


def make(told):
    return [4] + row(told)


def fits(told, cord):
    return [5] + row(told) + row(cord)


def ring(cord):
    return [6] + row(cord)


def alike(one, other):
    return [7] + row(one) + row(other)


def root(cord):
    return [8] + row(cord)


def commute(one, other):
    return [9] + row(one) + row(other)


# Each call that takes a cord, with all else that it takes told rightly.
WITH_A_CORD = {
    "taut": taut,
    "falls": lambda cord: falls(0, cord),
    "sets": sets,
    "fits": lambda cord: fits([1], cord),
    "ring": ring,
    "alike, the first": lambda cord: alike(cord, "a"),
    "alike, the second": lambda cord: alike("a", cord),
    "root": root,
    "commute, the first": lambda cord: commute(cord, "a"),
    "commute, the second": lambda cord: commute("a", cord),
}


def split(flat):
    found = []
    place = 0
    while place < len(flat):
        size = flat[place]
        found.append(flat[place + 1:place + 1 + size])
        place = place + 1 + size
    return found


def ask(*calls):
    """The answers to these calls on one new object, each a list."""
    return split(answers([number for call in calls for number in call]))


def ask_with(n, calls):
    """The answers to these calls with n fingers, in as many lines as the document's limits ask."""
    found = []
    line = []
    numbers = 0
    for call in calls:
        if len(line) == 199 or numbers + len(call) > 16000:
            found.extend(ask(fingers(n), *line)[1:])
            line = []
            numbers = 0
        line.append(call)
        numbers += len(call)
    return found + ask(fingers(n), *line)[1:]


def told_as(cord, *ahead):
    """The answer that tells this cord, behind the numbers ahead of it."""
    return [0] + list(ahead) + list(cord.encode("ascii"))


def text_of(answer):
    assert answer[0] == 0, answer
    return bytes(answer[1:]).decode("ascii")


def letters(n):
    return IN_ORDER[:2 * n]


def all_cords(n, longest):
    for length in range(longest + 1):
        for cord in itertools.product(letters(n), repeat=length):
            yield "".join(cord)


def some_cords(n, how_many, longest, seed):
    chance = random.Random(seed)
    for _ in range(how_many):
        yield "".join(chance.choice(letters(n)) for _ in range(chance.randint(0, longest)))


def slow_taut(cord):
    before = None
    while before != cord:
        before = cord
        for letter in IN_ORDER:
            cord = cord.replace(letter + letter.swapcase(), "")
    return cord


def slow_back(cord):
    return cord[::-1].swapcase()


def slow_power(cord, times):
    return slow_taut(cord * times if times >= 0 else slow_back(cord) * -times)


def names_in(held):
    return [name for place, name in enumerate("abcdef") if held & 2 ** place]


def slow_left(cord, let_go):
    for name in names_in(let_go):
        cord = cord.replace(name, "").replace(name.upper(), "")
    return cord


def slow_falls(cord, let_go):
    return slow_taut(slow_left(cord, let_go)) == ""


def slow_least_sets(cord, n):
    falling = [let_go for let_go in range(2 ** n) if slow_falls(cord, let_go)]
    least = [one for one in falling
             if not any(other != one and other & one == other for other in falling)]
    return sorted(least, key=lambda one: (bin(one).count("1"), one))


def slow_fits(told, cord, n):
    return all(slow_falls(cord, let_go) == all(let_go & one for one in told)
               for let_go in range(2 ** n))


def slow_made(told):
    cord = ""
    for one in told:
        names = names_in(one)
        part = names[0]
        for name in names[1:]:
            part = part + name + slow_back(part) + name.upper()
        cord += part
    return slow_taut(cord)


def in_order(cord):
    return [IN_ORDER.index(letter) for letter in cord]


def closed_forms(cord):
    """All that a closed cord comes to by moving the knot by a turn and pulling taut."""
    found = set()
    cord = slow_taut(cord)
    while cord not in found:
        found.add(cord)
        cord = slow_taut(cord[1:] + cord[:1])
    return found


def slow_ring(cord):
    forms = closed_forms(cord)
    shortest = min(len(form) for form in forms)
    return min((form for form in forms if len(form) == shortest), key=in_order)
