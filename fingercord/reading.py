"""Reading: the flat list of calls, and what is told in a call, with its refusals.

Of a call is read its number and a list of what it tells: its whole numbers, then its rows.
"""

from fingercord.letting import how_many_sets
from fingercord.refusals import FaultInText, NoSetsTold, OutOfRange, TextTooLong
from fingercord.turns import turn_told

MOST_FINGERS = 6
MOST_BYTES = 2000
MOST_SETS = 12

NUMBERS_AND_ROWS = {
    0: (1, 0),
    1: (0, 1),
    2: (1, 1),
    3: (0, 1),
    4: (0, 1),
    5: (0, 2),
    6: (0, 1),
    7: (0, 2),
    8: (0, 1),
    9: (0, 2),
}


def calls_told(calls):
    found = []
    place = 0
    while place < len(calls):
        number = calls[place]
        numbers, rows = NUMBERS_AND_ROWS[number]
        place = place + 1
        told = calls[place:place + numbers]
        place = place + numbers
        for row in range(rows):
            size = calls[place]
            place = place + 1
            told.append(calls[place:place + size])
            place = place + size
        found.append((number, told))
    return found


def read_fingers(number):
    if number < 1 or number > MOST_FINGERS:
        raise OutOfRange()
    return number


def read_let_go(number, fingers):
    if number < 0 or number >= how_many_sets(fingers):
        raise OutOfRange()
    return number


def read_sets(told, fingers):
    if len(told) < 1 or len(told) > MOST_SETS or len(set(told)) < len(told):
        raise NoSetsTold()
    if min(told) < 1 or max(told) >= how_many_sets(fingers):
        raise NoSetsTold()
    return told


def read_cord(text, fingers):
    if len(text) > MOST_BYTES:
        raise TextTooLong()
    cord = []
    for place, byte in enumerate(text):
        turn = turn_told(byte, fingers)
        if turn is None:
            raise FaultInText(place)
        cord.append(turn)
    return cord
