"""The least trees of bags, and what shows that there are no lesser ones."""

from tagwebs.bags import bags_of, meets
from tagwebs.checking import check_plain, check_seekers
from tagwebs.orders import least_order
from tagwebs.siding import find_sides


class LeastBags:
    """The least number of flying seekers who catch a swift runner whom they see, with the papers that show it."""

    def __init__(self, number, bags, sides):
        self.number = number
        self.bags = bags
        self.sides = sides


def bag_answer(web, seekers):
    """A Bags of at most this size, or a Sides for so many seekers."""
    check_plain(web)
    check_seekers(seekers)
    bags = smallest_bags(web)
    return bags if bags.size <= seekers else find_sides(web, seekers)


def least_bags(web):
    """The LeastBags of a plain web."""
    check_plain(web)
    bags = smallest_bags(web)
    return LeastBags(bags.size, bags, find_sides(web, bags.size - 1))


def smallest_bags(web):
    """A Bags of the least size, with one bag for each place."""
    return bags_of(web, least_order(len(web), lambda before, place: len(meets(web, before, place))))
