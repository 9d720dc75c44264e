"""Reading: the flat list of calls, and what is told in a call, with its refusals.

Of a call is read its number and a list of what it tells: its whole numbers, then its rows.
"""

from fingercord.letting import how_many_sets
from fingercord.refusals import FaultInText, NoSetsTold, OutOfRange, TextTooLong, TooMany
from fingercord.turns import SEMICOLON, turn_told

MOST_FINGERS = 6
MOST_BYTES = 2000
MOST_SETS = 12
MOST_MOVES = 6
MOST_TURNS_TOGETHER = 100
MOST_TIMES = 64

NUMBERS_AND_ROWS = {
    0: (1, 0),
    1: (0, 1),
    2: (1, 1),
    3: (0, 1),
    4: (0, 1),
    5: (0, 2),
    6: (0, 1),
    7: (0, 2),
    8: (0, 1),
    9: (0, 2),
    10: (0, 2),
    11: (0, 1),
    12: (0, 1),
    13: (0, 0),
    14: (0, 0),
    15: (0, 1),
    16: (0, 1),
    17: (1, 1),
    18: (0, 0),
}


def calls_told(calls):
    found = []
    place = 0
    while place < len(calls):
        number = calls[place]
        numbers, rows = NUMBERS_AND_ROWS[number]
        place = place + 1
        told = calls[place:place + numbers]
        place = place + numbers
        for row in range(rows):
            size = calls[place]
            place = place + 1
            told.append(calls[place:place + size])
            place = place + size
        found.append((number, told))
    return found


def read_fingers(number):
    if number < 1 or number > MOST_FINGERS:
        raise OutOfRange()
    return number


def read_let_go(number, fingers):
    if number < 0 or number >= how_many_sets(fingers):
        raise OutOfRange()
    return number


def read_sets(told, fingers):
    if len(told) < 1 or len(told) > MOST_SETS or len(set(told)) < len(told):
        raise NoSetsTold()
    if min(told) < 1 or max(told) >= how_many_sets(fingers):
        raise NoSetsTold()
    return told


def read_times(number):
    if number < 0 or number > MOST_TIMES:
        raise OutOfRange()
    return number


def look_at_size(text):
    if len(text) > MOST_BYTES:
        raise TextTooLong()


def read_turn(byte, place, fingers):
    turn = turn_told(byte, fingers)
    if turn is None:
        raise FaultInText(place)
    return turn


def read_cord(text, fingers):
    look_at_size(text)
    return [read_turn(byte, place, fingers) for place, byte in enumerate(text)]


def read_cords(text, fingers):
    look_at_size(text)
    cord = []
    cords = [cord]
    for place, byte in enumerate(text):
        if byte == SEMICOLON:
            cord = []
            cords.append(cord)
        else:
            cord.append(read_turn(byte, place, fingers))
    return cords


def look_at_turns_together(cords):
    if sum([len(cord) for cord in cords]) > MOST_TURNS_TOGETHER:
        raise TooMany()


def read_moves(text, fingers):
    cords = read_cords(text, fingers)
    if len(cords) > MOST_MOVES:
        raise TooMany()
    look_at_turns_together(cords)
    return cords


def read_exchange(text, fingers):
    cords = read_cords(text, fingers)
    if len(cords) != fingers:
        raise TooMany()
    look_at_turns_together(cords)
    return cords
