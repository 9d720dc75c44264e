"""Exchange: for each turn of a cord a row of turns."""

from fingercord.moves import Moves
from fingercord.refusals import GrowsTooLong
from fingercord.turns import other_way, pulled_taut, put_behind, small_turn, turned_back

MOST_TURNS = 2000
STRETCH = 32


def own_turns(fingers):
    return [[small_turn(finger)] for finger in range(fingers)]


class Exchange:
    def __init__(self, cords):
        self.cords = cords
        self.rows = {}
        self.stretches = {}
        for finger, cord in enumerate(cords):
            turn = small_turn(finger)
            self.rows[turn] = pulled_taut(cord)
            self.rows[other_way(turn)] = turned_back(self.rows[turn])

    def of_stretch(self, stretch):
        row = []
        for turn in stretch:
            put_behind(row, self.rows[turn])
        return row

    # A cord that stays short enough through many exchanges has the same stretches again
    # and again, so what comes of a stretch is kept as long as this exchange is.
    def of_stretch_kept(self, stretch):
        if stretch not in self.stretches:
            self.stretches[stretch] = self.of_stretch(stretch)
        return self.stretches[stretch]

    def of_cord(self, cord):
        exchanged = []
        for begin in range(0, len(cord), STRETCH):
            put_behind(exchanged, self.of_stretch_kept(tuple(cord[begin:begin + STRETCH])))
        return exchanged

    def times_of_cord(self, times, cord):
        exchanged = pulled_taut(cord)
        for again in range(times):
            exchanged = self.of_cord(exchanged)
            if len(exchanged) > MOST_TURNS:
                raise GrowsTooLong()
        return exchanged

    def is_onto(self):
        return Moves(self.cords).make_all(len(self.cords))
