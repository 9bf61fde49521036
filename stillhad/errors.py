"""All errors of the package, in their families."""


class HadError(ValueError):
    """The base class of all errors of the package."""


class PaperError(HadError):
    """The family of errors about papers."""


class BookError(HadError):
    """The family of errors about books, runs and what is asked of them."""


class HouseError(HadError):
    """The family of errors about modules, wirings and houses."""


class LiveError(HadError):
    """The family of errors about the live store."""


class TextError(HadError):
    """The family of errors about texts."""


class InvalidPaper(PaperError):
    """A checker refuses its thing: the word of the fault and its place."""

    def __init__(self, word, at):
        self.word = word
        self.at = at


class NotUsable(BookError):
    """A parameter is not as stated: its name and the place in it, or -1."""

    def __init__(self, word, at):
        self.word = word
        self.at = at


class Stuck(BookError):
    """A run sticks at this step."""

    def __init__(self, lap, turn, step):
        self.lap = lap
        self.turn = turn
        self.step = step


class TooMuch(BookError):
    """More is asked for than can be had."""

    def __init__(self, most):
        self.most = most


class Barred(BookError):
    """A goal does not follow, as this row shows."""

    def __init__(self, row):
        self.row = row


class OutOfReach(BookError):
    """No additions bring the most so high, as this row shows."""

    def __init__(self, row):
        self.row = row


class NoTwin(HouseError):
    """A module has no right twin, as its mosts at these amounts show."""

    def __init__(self, amounts, weights):
        self.amounts = amounts
        self.weights = weights


class Shared(HouseError):
    """This wire is shared."""

    def __init__(self, wire):
        self.wire = wire


class Ringed(HouseError):
    """One can come back to this seat."""

    def __init__(self, seat):
        self.seat = seat


class InvalidEvent(LiveError):
    """An event can't be done, for this reason."""

    def __init__(self, event, reason):
        self.event = event
        self.reason = reason


class NothingToUndo(LiveError):
    """The log has fewer events than are to be undone."""

    def __init__(self, steps):
        self.steps = steps


class InvalidText(TextError):
    """A text goes wrong in this line at this field."""

    def __init__(self, line, field):
        self.line = line
        self.field = field


class InvalidRow(TextError):
    """A row of a text goes like a good one, but tells nothing that there is."""

    def __init__(self, row):
        self.row = row
