"""Letting go: with which fingers a cord falls, and cords that fall just as told.

A set of fingers is a whole number: 1 for finger 0, 2 for finger 1, 4 for finger 2, ..
"""

from fingercord.turns import finger_of, other_way, pulled_taut, small_turn, turned_back


def how_many_sets(fingers):
    return 1 << fingers


def has_finger(held, finger):
    return (held >> finger) & 1 == 1


def fingers_in(held):
    return [finger for finger in range(held.bit_length()) if has_finger(held, finger)]


def falls(cord, let_go):
    left = [turn for turn in cord if not has_finger(let_go, finger_of(turn))]
    return len(pulled_taut(left)) == 0


def holds_one_of(held, smaller):
    return any([held & one == one for one in smaller])


def sets_in_order(fingers):
    return sorted(range(how_many_sets(fingers)), key=lambda held: (len(fingers_in(held)), held))


def least_sets(cord, fingers):
    least = []
    for let_go in sets_in_order(fingers):
        # Smaller sets come first, so what has none of these within it is least.
        if not holds_one_of(let_go, least) and falls(cord, let_go):
            least.append(let_go)
    return least


def part_made_for(held):
    part = []
    for finger in fingers_in(held):
        turn = small_turn(finger)
        if part:
            part = part + [turn] + turned_back(part) + [other_way(turn)]
        else:
            part = [turn]
    return part


def cord_made_for(told):
    cord = []
    for held in told:
        cord.extend(part_made_for(held))
    return pulled_taut(cord)


def meets_each(let_go, told):
    return all([let_go & held != 0 for held in told])


def fits_sets(cord, told, fingers):
    for let_go in range(how_many_sets(fingers)):
        if falls(cord, let_go) != meets_each(let_go, told):
            return False
    return True
