"""The calls on one object, told and answered as flat lists of whole numbers."""

from fingercord.closed import are_alike, do_commute, one_form, times_and_root
from fingercord.exchange import Exchange, own_turns
from fingercord.letting import cord_made_for, falls, fits_sets, least_sets
from fingercord.moves import Moves
from fingercord.reading import (calls_told, read_cord, read_exchange, read_fingers, read_let_go, read_moves,
                                read_sets, read_times)
from fingercord.refusals import NotMade, Refusal
from fingercord.turns import letters_between_semicolons, letters_of, pulled_taut

FINGERS_AT_FIRST = 3


class Hand:
    def __init__(self, fingers):
        self.begin_anew(fingers)

    def begin_anew(self, fingers):
        self.fingers = fingers
        self.moves = Moves([])
        self.exchange = Exchange(own_turns(fingers))


def one_if(holds):
    return [1 if holds else 0]


def call_fingers(hand, told):
    hand.begin_anew(read_fingers(told[0]))
    return []


def call_taut(hand, told):
    cord = read_cord(told[0], hand.fingers)
    return letters_of(pulled_taut(cord))


def call_falls(hand, told):
    let_go = read_let_go(told[0], hand.fingers)
    cord = read_cord(told[1], hand.fingers)
    return one_if(falls(cord, let_go))


def call_sets(hand, told):
    cord = read_cord(told[0], hand.fingers)
    return least_sets(cord, hand.fingers)


def call_make(hand, told):
    sets = read_sets(told[0], hand.fingers)
    return letters_of(cord_made_for(sets))


def call_fits(hand, told):
    sets = read_sets(told[0], hand.fingers)
    cord = read_cord(told[1], hand.fingers)
    return one_if(fits_sets(cord, sets, hand.fingers))


def call_ring(hand, told):
    cord = read_cord(told[0], hand.fingers)
    return letters_of(one_form(cord))


def call_alike(hand, told):
    one = read_cord(told[0], hand.fingers)
    other = read_cord(told[1], hand.fingers)
    return one_if(are_alike(one, other))


def call_root(hand, told):
    cord = read_cord(told[0], hand.fingers)
    times, root = times_and_root(cord)
    return [times] + letters_of(root)


def call_commute(hand, told):
    one = read_cord(told[0], hand.fingers)
    other = read_cord(told[1], hand.fingers)
    return one_if(do_commute(one, other))


def call_join(hand, told):
    one = read_cord(told[0], hand.fingers)
    other = read_cord(told[1], hand.fingers)
    return letters_of(pulled_taut(one + other))


def call_moves(hand, told):
    cords = read_moves(told[0], hand.fingers)
    hand.moves = Moves(cords)
    return [len(cords)]


def call_member(hand, told):
    cord = read_cord(told[0], hand.fingers)
    return one_if(hand.moves.told_by_basis(cord) is not None)


def call_size(hand, told):
    knots = hand.moves.how_many_knots()
    leads_on = hand.moves.leads_on_everywhere(hand.fingers)
    return [hand.moves.how_many_free(), knots, knots if leads_on else 0]


def call_basis(hand, told):
    return letters_between_semicolons(hand.moves.basis())


def call_write(hand, told):
    cord = read_cord(told[0], hand.fingers)
    passed = hand.moves.told_by_basis(cord)
    if passed is None:
        raise NotMade()
    return passed


def call_exchange(hand, told):
    hand.exchange = Exchange(read_exchange(told[0], hand.fingers))
    return []


def call_turn(hand, told):
    times = read_times(told[0])
    cord = read_cord(told[1], hand.fingers)
    return letters_of(hand.exchange.times_of_cord(times, cord))


def call_onto(hand, told):
    return one_if(hand.exchange.is_onto())


CALLS = {
    0: call_fingers,
    1: call_taut,
    2: call_falls,
    3: call_sets,
    4: call_make,
    5: call_fits,
    6: call_ring,
    7: call_alike,
    8: call_root,
    9: call_commute,
    10: call_join,
    11: call_moves,
    12: call_member,
    13: call_size,
    14: call_basis,
    15: call_write,
    16: call_exchange,
    17: call_turn,
    18: call_onto,
}


def answer_to(hand, number, told):
    try:
        return [0] + CALLS[number](hand, told)
    except Refusal as refusal:
        return [refusal.number]


def answers(calls):
    hand = Hand(FINGERS_AT_FIRST)
    given = []
    for number, told in calls_told(calls):
        answer = answer_to(hand, number, told)
        given.append(len(answer))
        given.extend(answer)
    return given
