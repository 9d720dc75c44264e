"""What the tests share: calls put together, answers taken apart, and the document's
words done slowly over texts, apart from the program, to be held against its answers."""

import itertools
import random
import time
import unittest

from fingercord.cords import answers

IN_ORDER = "aAbBcCdDeEfF"
FAR = 1000000000000000000
A_FEW_SECONDS = 5


class LongCase(unittest.TestCase):
    """For long answers: unlike ones are told by a place and a few numbers, not by all that's unlike."""

    def setUp(self):
        self.addTypeEqualityFunc(list, self.are_the_same)

    def are_the_same(self, found, right, msg=None):
        if found != right:
            place = 0
            while found[:place + 1] == right[:place + 1]:
                place += 1
            parts = [str(told[place:place + 1])[:200] for told in (found, right)]
            self.fail(f"at {place} of {len(found)} and {len(right)}: {parts[0]} is not {parts[1]} : {msg}"[:600])


def row(told):
    numbers = list(told.encode("latin-1")) if isinstance(told, str) else list(told)
    return [len(numbers)] + numbers


def fingers(n):
    return [0, n]


def taut(cord):
    return [1] + row(cord)


def falls(let_go, cord):
    return [2, let_go] + row(cord)


def sets(cord):
    return [3] + row(cord)


def make(told):
    return [4] + row(told)


def fits(told, cord):
    return [5] + row(told) + row(cord)


def ring(cord):
    return [6] + row(cord)


def alike(one, other):
    return [7] + row(one) + row(other)


def root(cord):
    return [8] + row(cord)


def commute(one, other):
    return [9] + row(one) + row(other)


def join(one, other):
    return [10] + row(one) + row(other)


def moves(cords):
    return [11] + row(cords)


def member(cord):
    return [12] + row(cord)


def size():
    return [13]


def basis():
    return [14]


def write(cord):
    return [15] + row(cord)


def exchange(cords):
    return [16] + row(cords)


def turn(times, cord):
    return [17, times] + row(cord)


def onto():
    return [18]


# Each call that takes a cord, with all else that it takes told rightly: of write, moves that
# make the cord are to be told ahead.
WITH_A_CORD = {
    "taut": taut,
    "falls": lambda cord: falls(0, cord),
    "sets": sets,
    "fits": lambda cord: fits([1], cord),
    "ring": ring,
    "alike, the first": lambda cord: alike(cord, "a"),
    "alike, the second": lambda cord: alike("a", cord),
    "root": root,
    "commute, the first": lambda cord: commute(cord, "a"),
    "commute, the second": lambda cord: commute("a", cord),
    "join, the first": lambda cord: join(cord, "a"),
    "join, the second": lambda cord: join("a", cord),
    "member": member,
    "write": write,
    "turn": lambda cord: turn(1, cord),
    "turn, no times": lambda cord: turn(0, cord),
}

# So many of the calls size, basis, write, member and onto may stand in one line.
MOST_SLOW_CALLS = 20


def split(flat):
    found = []
    place = 0
    while place < len(flat):
        size = flat[place]
        found.append(flat[place + 1:place + 1 + size])
        place = place + 1 + size
    return found


def ask(*calls):
    """The answers to these calls on one new object, each a list."""
    return split(answers([number for call in calls for number in call]))


def ask_with(n, calls, ahead=(), most=190):
    """The answers to these calls with n fingers, in as many lines as the document's limits ask.

    Each line begins with the calls that are told ahead, whose answers are left out."""
    found = []
    line = []
    numbers = sum(len(call) for call in ahead)
    for call in calls:
        if len(line) == most or numbers + len(call) > 16000:
            found.extend(ask(fingers(n), *ahead, *line)[1 + len(ahead):])
            line = []
            numbers = sum(len(call) for call in ahead)
        line.append(call)
        numbers += len(call)
    return found + ask(fingers(n), *ahead, *line)[1 + len(ahead):]


def ask_of_moves(n, cords, calls):
    """The answers to these calls with n fingers, behind moves."""
    return ask_with(n, calls, [moves(";".join(cords))], MOST_SLOW_CALLS)


def ask_of_exchange(n, rows, calls):
    """The answers to these calls with n fingers, behind exchange."""
    return ask_with(n, calls, [exchange(";".join(rows))], MOST_SLOW_CALLS)


def every_finger(n):
    """A text of cords: each finger's own small letter."""
    return ";".join("abcdef"[:n])


def told_as(cord, *ahead):
    """The answer that tells this cord, behind the numbers ahead of it."""
    return [0] + list(ahead) + list(cord.encode("ascii"))


def text_of(answer):
    assert answer[0] == 0, answer
    return bytes(answer[1:]).decode("ascii")


def letters(n):
    return IN_ORDER[:2 * n]


def all_cords(n, longest):
    for length in range(longest + 1):
        for cord in itertools.product(letters(n), repeat=length):
            yield "".join(cord)


def some_cords(n, how_many, longest, seed):
    chance = random.Random(seed)
    for _ in range(how_many):
        yield "".join(chance.choice(letters(n)) for _ in range(chance.randint(0, longest)))


def taut_cord(n, length, seed):
    """A cord of just so many turns, none of which pull taut."""
    chance = random.Random(seed)
    cord = ""
    while len(cord) < length:
        letter = chance.choice(letters(n))
        if cord[-1:] != letter.swapcase():
            cord += letter
    return cord


def long_cord(n, seed):
    return taut_cord(n, 2000, seed)


def growing_cord():
    """Each piece the two before it: hard to tell where the first in order begins."""
    before, cord = "a", "ab"
    while len(cord) < 2000:
        before, cord = cord, cord + before
    return cord[:2000]


def within_a_few_seconds(case, calls):
    begun = time.perf_counter()
    found = answers(calls)
    case.assertLess(time.perf_counter() - begun, A_FEW_SECONDS)
    return found


def slow_taut(cord):
    before = None
    while before != cord:
        before = cord
        for letter in IN_ORDER:
            cord = cord.replace(letter + letter.swapcase(), "")
    return cord


def slow_back(cord):
    return cord[::-1].swapcase()


def slow_power(cord, times):
    return slow_taut(cord * times if times >= 0 else slow_back(cord) * -times)


def names_in(held):
    return [name for place, name in enumerate("abcdef") if held & 2 ** place]


def slow_left(cord, let_go):
    for name in names_in(let_go):
        cord = cord.replace(name, "").replace(name.upper(), "")
    return cord


def slow_falls(cord, let_go):
    return slow_taut(slow_left(cord, let_go)) == ""


def slow_least_sets(cord, n):
    falling = [let_go for let_go in range(2 ** n) if slow_falls(cord, let_go)]
    least = [one for one in falling
             if not any(other != one and other & one == other for other in falling)]
    return sorted(least, key=lambda one: (bin(one).count("1"), one))


def slow_fits(told, cord, n):
    return all(slow_falls(cord, let_go) == all(let_go & one for one in told)
               for let_go in range(2 ** n))


def slow_made(told):
    cord = ""
    for one in told:
        names = names_in(one)
        part = names[0]
        for name in names[1:]:
            part = part + name + slow_back(part) + name.upper()
        cord += part
    return slow_taut(cord)


def slow_loops(cords):
    """The threads of the loops, each as the knot that it leaves, its letter, the knot to which it comes."""
    threads = []
    knots = 1
    for cord in map(slow_taut, cords):
        knot = 0
        for place, letter in enumerate(cord):
            to = knots
            if place == len(cord) - 1:
                to = 0
            knots += 1
            threads.append((knot, letter, to) if letter.islower() else (to, letter.lower(), knot))
            knot = to
    return threads


def slow_renamed(threads, one, other):
    kept, gone = sorted((one, other))
    return [tuple(kept if part == gone else part for part in thread) for thread in threads]


def slow_pairs_to_make_one(threads):
    return [(one, other) for one, other in itertools.combinations(threads, 2)
            if one[1] == other[1] and (one[0] == other[0] or one[2] == other[2])]


def slow_graph(cords, chance=None):
    """The threads that are left, made one in an order that hangs on chance, if that's told."""
    threads = slow_loops(cords)
    pairs = slow_pairs_to_make_one(threads)
    while pairs:
        one, other = chance.choice(pairs) if chance else pairs[0]
        threads.remove(other)
        if one[0] != other[0]:
            threads = slow_renamed(threads, one[0], other[0])
        else:
            threads = slow_renamed(threads, one[2], other[2])
        pairs = slow_pairs_to_make_one(threads)
    return threads


def slow_end(threads, knot, letter):
    for leaves, name, comes in threads:
        if letter == name and leaves == knot:
            return comes, (leaves, name, comes)
        if letter == name.upper() and comes == knot:
            return leaves, (leaves, name, comes)
    return None, None


def slow_ways(threads):
    """Of each knot, as they're found, its way; and the free threads in order."""
    ways = {0: ""}
    on_ways = []
    found = [0]
    for knot in found:
        for letter in IN_ORDER:
            to, thread = slow_end(threads, knot, letter)
            if to is not None and to not in ways:
                ways[to] = ways[knot] + letter
                on_ways.append(thread)
                found.append(to)
    free = [thread for thread in threads if thread not in on_ways]
    return ways, sorted(free, key=lambda thread: (found.index(thread[0]), thread[1]))


def slow_basis(cords):
    ways, free = slow_ways(slow_graph(cords))
    return [slow_taut(ways[leaves] + letter + slow_back(ways[comes])) for leaves, letter, comes in free]


def slow_size(cords, n):
    threads = slow_graph(cords)
    ways, free = slow_ways(threads)
    everywhere = all(slow_end(threads, knot, letter)[0] is not None for knot in ways for letter in letters(n))
    return [len(free), len(ways), len(ways) if everywhere else 0]


def slow_written(cords, cord):
    """The cord told by the basis, or None if the moves don't make it."""
    threads = slow_graph(cords)
    free = slow_ways(threads)[1]
    told = []
    knot = 0
    for letter in slow_taut(cord):
        knot, thread = slow_end(threads, knot, letter)
        if knot is None:
            return None
        if thread in free:
            told.append((free.index(thread) + 1) * (1 if letter.islower() else -1))
    return told if knot == 0 else None


def slow_multiplied(cords, told):
    return slow_taut("".join(cords[number - 1] if number > 0 else slow_back(cords[-number - 1]) for number in told))


def slow_all_made(cords, longest):
    """All that's made, pulled taut, on whose way nothing is longer than that: by its very words, with no graph."""
    parts = [slow_taut(cord) for cord in cords]
    parts += [slow_back(part) for part in parts]
    found = {""}
    ahead = [""]
    while ahead:
        cord = ahead.pop()
        for part in parts:
            longer = slow_taut(cord + part)
            if len(longer) <= longest and longer not in found:
                found.add(longer)
                ahead.append(longer)
    return found


def slow_exchanged(rows, cord):
    put_in = {}
    for letter, told in zip("abcdef", rows):
        put_in[letter] = told
        put_in[letter.upper()] = slow_back(told)
    return slow_taut("".join(put_in[letter] for letter in cord))


def slow_exchanged_times(rows, times, cord):
    """The cord exchanged so often, or None if it grows too long on its way."""
    cord = slow_taut(cord)
    for _ in range(times):
        cord = slow_exchanged(rows, cord)
        if len(cord) > 2000:
            return None
    return cord


def in_order(cord):
    return [IN_ORDER.index(letter) for letter in cord]


def closed_forms(cord):
    """All that a closed cord comes to by moving the knot by a turn and pulling taut."""
    found = set()
    cord = slow_taut(cord)
    while cord not in found:
        found.add(cord)
        cord = slow_taut(cord[1:] + cord[:1])
    return found


def slow_ring(cord):
    forms = closed_forms(cord)
    shortest = min(len(form) for form in forms)
    return min((form for form in forms if len(form) == shortest), key=in_order)
