"""Checks of arguments that several modules make in the same way."""

from tagwebs.errors import BadNumber, NotDoorless, NotPlain, NotUnseen, UnknownPlace
from tagwebs.sets import is_set


def check_place(web, place):
    """Raise UnknownPlace unless the number is that of a place of the web."""
    if not 0 <= place < len(web):
        raise UnknownPlace(place)


def check_places(web, places):
    """Raise UnknownPlace for the first number of a list that is not that of a place."""
    for place in places:
        check_place(web, place)


def check_order(web, order):
    """Raise BadNumber unless each place of the web occurs once in the list."""
    for at, place in enumerate(order):
        if not 0 <= place < len(web) or place in order[:at]:
            raise BadNumber(at)
    if len(order) < len(web):
        raise BadNumber(len(order))


def check_plain(web):
    """Raise NotPlain unless the web is plain."""
    if not web.plain:
        raise NotPlain()


def check_doorless(web):
    """Raise NotDoorless unless the web is doorless."""
    if not web.doorless:
        raise NotDoorless()


def check_unseen(game):
    """Raise NotUnseen unless the seekers are never told a place."""
    if game.late is not None:
        raise NotUnseen()


def check_most(most):
    """Raise BadNumber unless so many moves can be asked for."""
    if not 1 <= most <= 20000:
        raise BadNumber(most)


def check_seekers(seekers):
    """Raise BadNumber unless there can be so many who fly, or none."""
    if not 0 <= seekers <= 8:
        raise BadNumber(seekers)


def wrong_bag(web, bags):
    """What is wrong with a list of bags by itself, a pair (part, place), or None."""
    if not 1 <= len(bags) <= 40:
        return ("bags", 0)
    wrong = [at for at, bag in enumerate(bags) if not is_set(bag, len(web))]
    return ("bag", wrong[0]) if wrong else None
