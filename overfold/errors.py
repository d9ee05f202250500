"""The refusals: one class for each, all straight under ShelfError, so that one handler can take them all."""


class ShelfError(ValueError):
    pass


class NoThing(ShelfError):
    pass


class WrongKind(ShelfError):
    pass


class Within(ShelfError):
    pass


class Taken(ShelfError):
    pass


class NotEmpty(ShelfError):
    pass


class TooLong(ShelfError):
    pass


class TooDeep(ShelfError):
    pass


class NoHandle(ShelfError):
    pass


class NoRoom(ShelfError):
    pass


class BadLayer(ShelfError):
    def __init__(self, words, row):
        ShelfError.__init__(self, words)
        self.row = row


class NoFit(ShelfError):
    def __init__(self, words, number):
        ShelfError.__init__(self, words)
        self.number = number


class BadRow(ShelfError):
    def __init__(self, words, row):
        ShelfError.__init__(self, words)
        self.row = row
