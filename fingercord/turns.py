"""Turns and cords.

A finger is a whole number from 0 on. A turn is twice its finger, and one more if
it is the great letter's: so turns stand in order as numbers do, and two turns undo
one another if they differ in the last bit alone. A cord is a list of turns.
"""

SMALL_A = 97
GREAT_A = 65


def finger_of(turn):
    return turn // 2


def other_way(turn):
    return turn ^ 1


def small_turn(finger):
    return 2 * finger


def turn_told(byte, fingers):
    if SMALL_A <= byte < SMALL_A + fingers:
        return small_turn(byte - SMALL_A)
    if GREAT_A <= byte < GREAT_A + fingers:
        return other_way(small_turn(byte - GREAT_A))
    return None


def letter_of(turn):
    finger = finger_of(turn)
    if turn == small_turn(finger):
        return SMALL_A + finger
    return GREAT_A + finger


def letters_of(cord):
    return [letter_of(turn) for turn in cord]


def pulled_taut(cord):
    taut = []
    for turn in cord:
        if taut and taut[-1] == other_way(turn):
            taut.pop()
        else:
            taut.append(turn)
    return taut


def turned_back(cord):
    return [other_way(turn) for turn in reversed(cord)]
