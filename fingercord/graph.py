"""The graph of moves: a loop for each, and what runs alike made one.

A knot is a whole number. Each thread is kept at both its ends: at the knot that it leaves
under its small turn, and at the knot to which it comes under its great turn. So each
turn leads on from a knot to one knot at most.
"""

from fingercord.turns import other_way, pulled_taut


class Graph:
    def __init__(self, moves):
        self.made_one_with = [0]
        self.leads = [{}]
        for move in moves:
            self.lay_loop(pulled_taut(move))

    def new_knot(self):
        knot = len(self.leads)
        self.made_one_with.append(knot)
        self.leads.append({})
        return knot

    def now_of(self, knot):
        while self.made_one_with[knot] != knot:
            knot = self.made_one_with[knot]
        return knot

    def lay_loop(self, cord):
        knot = 0
        for place, turn in enumerate(cord):
            to = 0 if place == len(cord) - 1 else self.new_knot()
            self.lay_turn(knot, turn, to)
            self.lay_turn(to, other_way(turn), knot)
            knot = to

    def lay_turn(self, knot, turn, to):
        there = self.leads[self.now_of(knot)].setdefault(turn, to)
        self.make_one(there, to)

    # Making two knots one may bring threads with one letter together, and so ask for
    # the knots at their other ends to be made one, too: these wait for their turn.
    def make_one(self, one, other):
        waiting = [(one, other)]
        while waiting:
            pair = waiting.pop()
            knots = [self.now_of(pair[0]), self.now_of(pair[1])]
            kept = min(knots)
            gone = max(knots)
            if kept != gone:
                self.made_one_with[gone] = kept
                ahead = self.leads[kept]
                for turn, to in list(self.leads[gone].items()):
                    waiting.append((ahead.setdefault(turn, to), to))

    def turns_from(self, knot):
        return sorted(self.leads[knot])

    def end_of(self, knot, turn):
        to = self.leads[knot].get(turn)
        return None if to is None else self.now_of(to)
