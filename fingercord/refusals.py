"""The refusals: one error class for each, and the number it is answered with."""


class Refusal(Exception):
    def __init__(self, number):
        self.number = number


class OutOfRange(Refusal):
    def __init__(self):
        Refusal.__init__(self, -2)


class NoSetsTold(Refusal):
    def __init__(self):
        Refusal.__init__(self, -3)


class TooMany(Refusal):
    def __init__(self):
        Refusal.__init__(self, -4)


class NotMade(Refusal):
    def __init__(self):
        Refusal.__init__(self, -5)


class GrowsTooLong(Refusal):
    def __init__(self):
        Refusal.__init__(self, -6)


class TextTooLong(Refusal):
    def __init__(self):
        Refusal.__init__(self, -8)


class FaultInText(Refusal):
    def __init__(self, place):
        Refusal.__init__(self, -1000 - place)
