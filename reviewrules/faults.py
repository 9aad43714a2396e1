"""What a call can be refused for: one error class for each refusal."""


class Refusal(Exception):
    """The number is told without its sign; the place is 0 where the document tells none."""

    def __init__(self, number, place):
        self.number = number
        self.place = place


class TextTooLong(Refusal):
    def __init__(self):
        Refusal.__init__(self, 1, 0)


class CannotBeCut(Refusal):
    def __init__(self, place):
        Refusal.__init__(self, 2, place)


class TooManyLevels(Refusal):
    def __init__(self, place):
        Refusal.__init__(self, 3, place)


class CannotStandThere(Refusal):
    def __init__(self, place):
        Refusal.__init__(self, 4, place)


class ConditionTooDeep(Refusal):
    def __init__(self):
        Refusal.__init__(self, 5, 0)


class NobodyHasTheName(Refusal):
    def __init__(self, place):
        Refusal.__init__(self, 6, place)


class NameIsTaken(Refusal):
    def __init__(self, place):
        Refusal.__init__(self, 7, place)


class TooFewInGroup(Refusal):
    def __init__(self, place):
        Refusal.__init__(self, 8, place)


class NoRoomLeft(Refusal):
    def __init__(self, place):
        Refusal.__init__(self, 9, place)


class SecondDefault(Refusal):
    def __init__(self, place):
        Refusal.__init__(self, 10, place)


class NoPath(Refusal):
    def __init__(self):
        Refusal.__init__(self, 11, 0)


class NoChange(Refusal):
    def __init__(self):
        Refusal.__init__(self, 12, 0)


class IsTheAuthor(Refusal):
    def __init__(self):
        Refusal.__init__(self, 13, 0)


class NoPattern(Refusal):
    def __init__(self):
        Refusal.__init__(self, 14, 0)
