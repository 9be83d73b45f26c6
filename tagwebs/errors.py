"""The errors of the package, side by side under TagError."""


class TagError(ValueError):
    """The base class of all errors of the package."""


class Unlike(TagError):
    """Two webs do not have the same places and beats."""


class NotPlain(TagError):
    """A web is not plain."""


class NotDoorless(TagError):
    """A web is not doorless."""


class OutOfReach(TagError):
    """No shadow of the runner is in reach of the seeker."""


class NotUnseen(TagError):
    """The seekers of a game are told places."""


class NotSeen(TagError):
    """The seekers of a game do not always see the runner."""


class OtherGame(TagError):
    """A paper belongs to another game than the desk."""


class NothingToUndo(TagError):
    """No deed can be taken back."""


class NothingToRedo(TagError):
    """No deed can be done again."""


class BadWeb(TagError):
    """A web cannot be made of what was passed."""

    def __init__(self, part, place):
        self.part = part
        self.place = place


class BadPaper(TagError):
    """A paper of a game does not hold."""

    def __init__(self, part, place):
        self.part = part
        self.place = place


class BadBags(TagError):
    """A tree of bags does not hold."""

    def __init__(self, part, place):
        self.part = part
        self.place = place


class BadSides(TagError):
    """A table of sides does not hold."""

    def __init__(self, part, place):
        self.part = part
        self.place = place


class BadRow(TagError):
    """A row of bags does not hold."""

    def __init__(self, part, place):
        self.part = part
        self.place = place


class BadShut(TagError):
    """A shut family does not hold."""

    def __init__(self, part, place):
        self.part = part
        self.place = place


class BadPlan(TagError):
    """A plan cannot be made of what was passed."""

    def __init__(self, part, place):
        self.part = part
        self.place = place


class UnfitPlan(TagError):
    """A plan does not fit a game."""

    def __init__(self, part, place):
        self.part = part
        self.place = place


class BadJoin(TagError):
    """Two webs cannot be put together."""

    def __init__(self, part):
        self.part = part


class BadGame(TagError):
    """A game cannot be made of what was passed."""

    def __init__(self, part):
        self.part = part


class BadCarry(TagError):
    """A paper cannot be carried over."""

    def __init__(self, part):
        self.part = part


class UnknownName(TagError):
    """No such thing has this name."""

    def __init__(self, name):
        self.name = name


class NotNow(TagError):
    """A deed is not for the present turn, which is the word."""

    def __init__(self, word):
        self.word = word


class UnknownPlace(TagError):
    """A number is not that of a place."""

    def __init__(self, place):
        self.place = place


class NotFree(TagError):
    """A place is in the post."""

    def __init__(self, place):
        self.place = place


class CannotRun(TagError):
    """The runner cannot run to this place."""

    def __init__(self, place):
        self.place = place


class BadPost(TagError):
    """A tuple is no post of the game."""

    def __init__(self, post):
        self.post = post


class CannotSend(TagError):
    """The seekers cannot go to this post."""

    def __init__(self, post):
        self.post = post


class UnknownStanding(TagError):
    """A tuple is no standing that is known here."""

    def __init__(self, standing):
        self.standing = standing


class UnknownPosition(TagError):
    """A tuple is no position that is known here."""

    def __init__(self, position):
        self.position = position


class BadNumber(TagError):
    """A number is outside of its bounds."""

    def __init__(self, number):
        self.number = number


class TooMany(TagError):
    """There is more of something than was allowed."""

    def __init__(self, number):
        self.number = number


class BadLine(TagError):
    """A line of a text cannot stand there."""

    def __init__(self, number):
        self.number = number


class BadFold(TagError):
    """A fold cannot be taken."""

    def __init__(self, number):
        self.number = number


class BadCommand(TagError):
    """A command for a desk failed."""

    def __init__(self, number, why):
        self.number = number
        self.why = why
