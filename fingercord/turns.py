"""Turns and cords.

A finger is a whole number from 0 on. A turn is twice its finger, and one more if
it is the great letter's: so turns stand in order as numbers do, and two turns undo
one another if they differ in the last bit alone. A cord is a list of turns.
"""

SMALL_A = 97
GREAT_A = 65
SEMICOLON = 59


def finger_of(turn):
    return turn // 2


def other_way(turn):
    return turn ^ 1


def small_turn(finger):
    return 2 * finger


def is_small(turn):
    return turn == small_turn(finger_of(turn))


def turn_told(byte, fingers):
    if SMALL_A <= byte < SMALL_A + fingers:
        return small_turn(byte - SMALL_A)
    if GREAT_A <= byte < GREAT_A + fingers:
        return other_way(small_turn(byte - GREAT_A))
    return None


def letter_of(turn):
    first = SMALL_A if is_small(turn) else GREAT_A
    return first + finger_of(turn)


def letters_of(cord):
    return [letter_of(turn) for turn in cord]


def letters_between_semicolons(cords):
    letters = []
    for place, cord in enumerate(cords):
        if place > 0:
            letters.append(SEMICOLON)
        letters.extend(letters_of(cord))
    return letters


def pulled_taut(cord):
    taut = []
    for turn in cord:
        if taut and taut[-1] == other_way(turn):
            taut.pop()
        else:
            taut.append(turn)
    return taut


def turned_back(cord):
    return [other_way(turn) for turn in reversed(cord)]


# Both are taut already, so only where they meet do turns undo one another.
def put_behind(cord, more):
    undone = 0
    while undone < len(more) and cord and cord[-1] == other_way(more[undone]):
        cord.pop()
        undone = undone + 1
    cord.extend(more[undone:])
