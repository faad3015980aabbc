"""The refusals: one class for each, all under ShapeError."""


class ShapeError(ValueError):
    pass


class NoNode(ShapeError):
    pass


class NoFact(ShapeError):
    pass


class NoWeb(ShapeError):
    pass


class Twice(ShapeError):
    pass


class Missing(ShapeError):
    pass


class NoForm(ShapeError):
    def __init__(self, at):
        ShapeError.__init__(self, f"no form's text, at {at}")
        self.at = at


class NoBook(ShapeError):
    pass


class Unknown(ShapeError):
    def __init__(self, name):
        ShapeError.__init__(self, f"no shape is called {name}")
        self.name = name


# A ring is copied, so that a later change of the list that was handed in doesn't matter.
class Against(ShapeError):
    def __init__(self, ring):
        ShapeError.__init__(self, "a ring of shapes goes against itself")
        self.ring = list(ring)


class Mixed(ShapeError):
    def __init__(self, ring):
        ShapeError.__init__(self, "a ring of shapes has both words")
        self.ring = list(ring)


class NoText(ShapeError):
    def __init__(self, line):
        ShapeError.__init__(self, f"no such text, in line {line}")
        self.line = line


class NoMay(ShapeError):
    pass


class NotSimple(ShapeError):
    def __init__(self, name):
        ShapeError.__init__(self, f"the book is not simple: {name}")
        self.name = name


class Clash(ShapeError):
    pass


class NoRow(ShapeError):
    pass
