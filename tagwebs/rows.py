"""Rows of bags on doorless webs."""

from tagwebs.checking import check_doorless, check_order, wrong_bag
from tagwebs.errors import BadNumber, BadRow
from tagwebs.reaching import rim
from tagwebs.sets import union


class Row:
    """A row of bags: each place is in bags side by side, and no passage leads back into bags that are over."""

    def __init__(self, web, bags):
        check_doorless(web)
        wrong = wrong_bag(web, bags)
        if wrong is not None:
            raise BadRow(wrong[0], wrong[1])
        for place in range(len(web)):
            own = indexes(bags, place)
            if not own or len(own) != own[-1] - own[0] + 1:
                raise BadRow("place", place)
        for at, tie in enumerate(web.ties()):
            if leads_back(web, bags, tie):
                raise BadRow("passage", at)
        self.web = web
        self.bags = tuple(bags)

    def __eq__(self, other):
        return isinstance(other, Row) and self.web == other.web and self.bags == other.bags

    @property
    def size(self):
        """The greatest number of places in a bag."""
        return max([len(bag) for bag in self.bags])

    def clean(self, index):
        """The set of the places that are in the bags up to this index."""
        if not 0 <= index < len(self.bags):
            raise BadNumber(index)
        return tuple(sorted(set([place for bag in self.bags[:index + 1] for place in bag])))


def row_of(web, order):
    """The Row with one bag for each place of the order: the place and the rim of the places before it."""
    check_doorless(web)
    check_order(web, order)
    return Row(web, [union((order[at],), rim(web, order[:at])) for at in range(len(order))])


def indexes(bags, place):
    """The ascending list of the indexes of the bags that have the place."""
    return [at for at, bag in enumerate(bags) if place in bag]


def leads_back(web, bags, tie):
    """True if the tie gives a passage from a place to one whose last bag stands before the first bag of the former."""
    first, second, way, _ = tie
    there = indexes(bags, web.index(first))
    back = indexes(bags, web.index(second))
    return there[0] > back[-1] or (way == "two" and back[0] > there[-1])
