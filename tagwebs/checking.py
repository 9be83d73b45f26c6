"""Checks of arguments that several modules make in the same way."""

from tagwebs.errors import BadNumber, NotPlain, UnknownPlace


def check_place(web, place):
    """Raise UnknownPlace unless the number is that of a place of the web."""
    if not 0 <= place < len(web):
        raise UnknownPlace(place)


def check_places(web, places):
    """Raise UnknownPlace for the first number of a list that is not that of a place."""
    for place in places:
        check_place(web, place)


def check_plain(web):
    """Raise NotPlain unless the web is plain."""
    if not web.plain:
        raise NotPlain()


def check_most(most):
    """Raise BadNumber unless so many moves can be asked for."""
    if not 1 <= most <= 20000:
        raise BadNumber(most)
