"""The errors of the package."""


class HallError(ValueError):
    """What all errors of the package have in common; raised nowhere itself."""


class Wrong(HallError):
    """The argument at this place is not as it has to be."""

    def __init__(self, place):
        self.place = place


class NoText(HallError):
    """A text tells nothing, for the sake of the line with this index."""

    def __init__(self, line):
        self.line = line


class Dead(HallError):
    """A hall is not live: it has this dead ring."""

    def __init__(self, ring):
        self.ring = ring


class TooMany(HallError):
    """There is more to be found than this many."""

    def __init__(self, most):
        self.most = most


class NoMachine(HallError):
    """No machine of the hall has this name."""

    def __init__(self, name):
        self.name = name


class NoBelt(HallError):
    """No belt of the hall has this index."""

    def __init__(self, index):
        self.index = index


class NoCommand(HallError):
    """A line is no command."""

    def __init__(self):
        super().__init__()


class Nothing(HallError):
    """There is nothing that could be taken back."""

    def __init__(self):
        super().__init__()
