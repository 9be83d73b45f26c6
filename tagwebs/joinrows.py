"""Rows and shut families of joined webs."""

from tagwebs.checking import check_doorless, check_seekers
from tagwebs.joining import check_bagged, check_halves, crossed_bags
from tagwebs.parts import new_numbers, old_numbers
from tagwebs.rowparts import carry_shut
from tagwebs.rows import Row, indexes
from tagwebs.sets import has_all, sets_up_to, union
from tagwebs.shuts import Blocking, Shut


def join_row(join, first, second):
    """The Row of the joined web that comes from a Row of each of the two webs."""
    check_doorless(join.web)
    check_bagged(join, first, second)
    if join.kind == "crossed":
        _, bags = crossed_bags(join, first, second)
        return Row(join.web, bags)
    bags = [old_numbers(join.firsts, bag) for bag in first.bags]
    bags.extend([old_numbers(join.seconds, bag) for bag in second.bags])
    if join.kind != "apart":
        # The place of the first web is held until the place of the second web comes, so that both are in one bag.
        end = len(first.bags) + indexes(second.bags, join.to)[0]
        bags = with_place(bags, join.at, indexes(first.bags, join.at)[0], end)
    return Row(join.web, bags)


def with_place(bags, place, start, end):
    """The bags with this place more in those from the index start to the index end."""
    return [union(bag, (place,)) if start <= at <= end else bag for at, bag in enumerate(bags)]


def join_shut(join, seekers, first, second):
    """The family of the joined web that comes from a family of one of the two webs, or of both."""
    check_doorless(join.web)
    check_seekers(seekers)
    check_halves(join, seekers, first, second)
    if join.kind != "crossed":
        if first is not None:
            return carry_shut(join.web, join.firsts, first)
        return carry_shut(join.web, join.seconds, second)
    every = sets_up_to(len(join.web), len(join.web))
    found = [places for places in every if is_shut_in(join, seekers, first, second, places)]
    if join.web.plain and all([paper is None or isinstance(paper, Blocking) for paper in (first, second)]):
        return Blocking(join.web, seekers, found)
    return Shut(join.web, seekers, found)


def is_shut_in(join, seekers, first, second, places):
    """True if the set is in the family of a crossed web that these families, or None, of the two webs give."""
    whole = (has_all(places, join.firsts), has_all(places, join.seconds))
    if whole == (False, True):
        return first is not None and new_numbers(join.firsts, places) in first
    if whole == (True, False):
        return second is not None and new_numbers(join.seconds, places) in second
    return whole == (False, False) and len(places) <= seekers
