"""What the program refuses: each refusal is a class straight under HoleError, with the values it tells."""


class HoleError(ValueError):
    """Whatever the program refuses."""


class NoText(HoleError):
    """What was to be read isn't the text of anything."""


class NoEdition(HoleError):
    """What was handed in has not the form of an edition."""


class NotNext(HoleError):
    """An edition's number isn't one more than how many editions of its line are out."""

    def __init__(self, number):
        self.number = number


class NotOut(HoleError):
    """No edition of this key is there."""

    def __init__(self, key):
        self.key = key


class Told(HoleError):
    """A name that its line told ahead."""

    def __init__(self, name):
        self.name = name


class Unheard(HoleError):
    """A full name that isn't due where it stands."""

    def __init__(self, name):
        self.name = name


class NotKept(HoleError):
    """A verb that is given away by a line that doesn't keep it."""

    def __init__(self, name):
        self.name = name


class Loose(HoleError):
    """A row whose answer has a hole that its head lacks."""

    def __init__(self, number):
        self.number = number


class Holed(HoleError):
    """A row the looking at which ends at a hole, at this step."""

    def __init__(self, number, step):
        self.number = number
        self.step = step


class Answered(HoleError):
    """A row whose form the edition of this key answers ahead of it."""

    def __init__(self, number, key):
        self.number = number
        self.key = key


class Stray(HoleError):
    """A row whose verb another line keeps."""

    def __init__(self, number):
        self.number = number


class Forked(HoleError):
    """The key of which two books have unlike editions."""

    def __init__(self, key):
        self.key = key


class NotBook(HoleError):
    """The place of the first edition of a would-be book that isn't let by."""

    def __init__(self, number):
        self.number = number


class NoLine(HoleError):
    """A line that the desk doesn't know."""

    def __init__(self, line):
        self.line = line


class NoRow(HoleError):
    """An edition has no row of this number."""

    def __init__(self, number):
        self.number = number
