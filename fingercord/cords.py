"""The calls on one object, told and answered as flat lists of whole numbers."""

from fingercord.closed import are_alike, do_commute, one_form, times_and_root
from fingercord.letting import cord_made_for, falls, fits_sets, least_sets
from fingercord.reading import calls_told, read_cord, read_fingers, read_let_go, read_sets
from fingercord.refusals import Refusal
from fingercord.turns import letters_of, pulled_taut


class Hand:
    def __init__(self):
        self.fingers = 3


def one_if(holds):
    return [1 if holds else 0]


def call_fingers(hand, told):
    hand.fingers = read_fingers(told[0])
    return []


def call_taut(hand, told):
    cord = read_cord(told[0], hand.fingers)
    return letters_of(pulled_taut(cord))


def call_falls(hand, told):
    let_go = read_let_go(told[0], hand.fingers)
    cord = read_cord(told[1], hand.fingers)
    return one_if(falls(cord, let_go))


def call_sets(hand, told):
    cord = read_cord(told[0], hand.fingers)
    return least_sets(cord, hand.fingers)


def call_make(hand, told):
    sets = read_sets(told[0], hand.fingers)
    return letters_of(cord_made_for(sets))


def call_fits(hand, told):
    sets = read_sets(told[0], hand.fingers)
    cord = read_cord(told[1], hand.fingers)
    return one_if(fits_sets(cord, sets, hand.fingers))


def call_ring(hand, told):
    cord = read_cord(told[0], hand.fingers)
    return letters_of(one_form(cord))


def call_alike(hand, told):
    one = read_cord(told[0], hand.fingers)
    other = read_cord(told[1], hand.fingers)
    return one_if(are_alike(one, other))


def call_root(hand, told):
    cord = read_cord(told[0], hand.fingers)
    times, root = times_and_root(cord)
    return [times] + letters_of(root)


def call_commute(hand, told):
    one = read_cord(told[0], hand.fingers)
    other = read_cord(told[1], hand.fingers)
    return one_if(do_commute(one, other))


CALLS = {
    0: call_fingers,
    1: call_taut,
    2: call_falls,
    3: call_sets,
    4: call_make,
    5: call_fits,
    6: call_ring,
    7: call_alike,
    8: call_root,
    9: call_commute,
}


def answer_to(hand, number, told):
    try:
        return [0] + CALLS[number](hand, told)
    except Refusal as refusal:
        return [refusal.number]


def answers(calls):
    hand = Hand()
    given = []
    for number, told in calls_told(calls):
        answer = answer_to(hand, number, told)
        given.append(len(answer))
        given.extend(answer)
    return given
