"""The refusals: one error class for each, with the number that is answered."""


class Refusal(Exception):
    def __init__(self, number):
        self.number = number


class NotReadable(Refusal):
    def __init__(self):
        Refusal.__init__(self, -1)


class WrongShape(Refusal):
    def __init__(self):
        Refusal.__init__(self, -2)


class NamedTwice(Refusal):
    def __init__(self):
        Refusal.__init__(self, -3)


class NotThere(Refusal):
    def __init__(self):
        Refusal.__init__(self, -3)


class WrongCell(Refusal):
    def __init__(self):
        Refusal.__init__(self, -4)


class NoSuchClaim(Refusal):
    def __init__(self):
        Refusal.__init__(self, -4)


class NameTaken(Refusal):
    def __init__(self):
        Refusal.__init__(self, -5)


class NoSuchColumn(Refusal):
    def __init__(self):
        Refusal.__init__(self, -5)


class TooManyTables(Refusal):
    def __init__(self):
        Refusal.__init__(self, -6)


class NoKeyOrFixedColumn(Refusal):
    def __init__(self):
        Refusal.__init__(self, -6)


class TextTooLong(Refusal):
    def __init__(self):
        Refusal.__init__(self, -8)
