"""Moves: their graph gone through, the basis, and which cords they make."""

from fingercord.graph import Graph
from fingercord.turns import is_small, other_way, pulled_taut, turned_back


# A thread is called by the knot that it leaves and its small turn, whichever way it's passed.
def thread_passed(knot, turn, to):
    return (knot, turn) if is_small(turn) else (to, other_way(turn))


class Moves:
    def __init__(self, cords):
        self.graph = Graph(cords)
        self.knots = [0]
        self.ways = {0: []}
        self.on_ways = {}
        self.free = {}
        self.find_knots()
        self.number_free_threads()

    def find_knots(self):
        gone_through = 0
        while gone_through < len(self.knots):
            knot = self.knots[gone_through]
            for turn in self.graph.turns_from(knot):
                to = self.graph.end_of(knot, turn)
                if to not in self.ways:
                    self.knots.append(to)
                    self.ways[to] = self.ways[knot] + [turn]
                    self.on_ways[thread_passed(knot, turn, to)] = True
            gone_through = gone_through + 1

    def number_free_threads(self):
        for knot in self.knots:
            for turn in self.graph.turns_from(knot):
                if is_small(turn) and (knot, turn) not in self.on_ways:
                    self.free[(knot, turn)] = len(self.free) + 1

    def how_many_free(self):
        return len(self.free)

    def how_many_knots(self):
        return len(self.knots)

    def leads_on_everywhere(self, fingers):
        return all([len(self.graph.turns_from(knot)) == 2 * fingers for knot in self.knots])

    def make_all(self, fingers):
        return self.how_many_knots() == 1 and self.leads_on_everywhere(fingers)

    def basis(self):
        cords = []
        for knot, turn in self.free:
            to = self.graph.end_of(knot, turn)
            cords.append(pulled_taut(self.ways[knot] + [turn] + turned_back(self.ways[to])))
        return cords

    def told_by_basis(self, cord):
        """The numbers of the free threads that the cord passes, or None if it isn't made."""
        passed = []
        knot = 0
        for turn in pulled_taut(cord):
            to = self.graph.end_of(knot, turn)
            if to is None:
                return None
            number = self.free.get(thread_passed(knot, turn, to))
            if number is not None:
                passed.append(number if is_small(turn) else -number)
            knot = to
        return passed if knot == 0 else None
