"""Closed cords, powers, and cords that commute."""

from fingercord.turns import other_way, pulled_taut


def how_many_ends_undo(taut):
    ends = 0
    while len(taut) - 2 * ends >= 2 and taut[ends] == other_way(taut[len(taut) - 1 - ends]):
        ends = ends + 1
    return ends


# Two beginnings are compared turn by turn. Where one loses behind some equal turns, each
# beginning within these loses as well to one within the other's, so all are leapt over:
# that keeps the steps as few as the row is long, a small number of times.
def least_beginning(row):
    size = len(row)
    one = 0
    other = 1
    equal = 0
    while one < size and other < size and equal < size:
        turn_of_one = row[(one + equal) % size]
        turn_of_other = row[(other + equal) % size]
        if turn_of_one == turn_of_other:
            equal = equal + 1
        else:
            if turn_of_one > turn_of_other:
                one = one + equal + 1
            else:
                other = other + equal + 1
            if one == other:
                other = other + 1
            equal = 0
    return min(one, other)


def one_form(cord):
    taut = pulled_taut(cord)
    ends = how_many_ends_undo(taut)
    core = taut[ends:len(taut) - ends]
    first = least_beginning(core)
    return core[first:] + core[:first]


def are_alike(one, other):
    return one_form(one) == one_form(other)


def shortest_period(row):
    size = len(row)
    for period in range(1, size):
        if size % period == 0 and row[:period] * (size // period) == row:
            return period
    return size


# Of a power, the ends that undo one another are those of its root, and what stands between
# them is a row plainly repeated: so there the root is sought, and gets the same ends.
def times_and_root(cord):
    taut = pulled_taut(cord)
    if not taut:
        return 0, []
    ends = how_many_ends_undo(taut)
    core = taut[ends:len(taut) - ends]
    period = shortest_period(core)
    root = taut[:ends] + core[:period] + taut[len(taut) - ends:]
    return len(core) // period, root


def do_commute(one, other):
    return pulled_taut(one + other) == pulled_taut(other + one)
