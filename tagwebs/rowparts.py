"""Papers that come from rows, sides and shut families: of the same web, of a part, of a larger web."""

from tagwebs.bags import Bags
from tagwebs.checking import check_doorless
from tagwebs.narrows import narrow_sets
from tagwebs.parts import check_carry, new_numbers
from tagwebs.rows import Row
from tagwebs.shuts import Blocking, Shut


def row_bags(row):
    """The Bags of a row of a plain web, each linked to the next one."""
    return Bags(row.web, row.bags, [(at, at + 1) for at in range(len(row.bags) - 1)])


def sides_blocking(sides):
    """The Blocking of the narrow sets that have no place of the side of their rim."""
    found = []
    for places, edge in narrow_sets(sides.web, sides.seekers).items():
        side = sides.side(edge)
        if not any([place in side for place in places]):
            found.append(places)
    return Blocking(sides.web, sides.seekers, found)


def cut_row(row, places):
    """The Row of a part of the web."""
    return Row(row.web.restricted(places), [new_numbers(places, bag) for bag in row.bags])


def carry_shut(web, places, shut):
    """The family of the web whose sets have in a part of it a set of the family of this part."""
    check_doorless(web)
    check_carry(web, places, shut.web)
    found = [clean for clean in narrow_sets(web, shut.seekers) if new_numbers(places, clean) in shut]
    if isinstance(shut, Blocking) and web.plain:
        return Blocking(web, shut.seekers, found)
    return Shut(web, shut.seekers, found)
