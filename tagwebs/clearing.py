"""The least rows of bags, and what shows that there are no lesser ones."""

from tagwebs.checking import check_doorless, check_seekers
from tagwebs.narrows import clean_from, narrow_sets, opposite
from tagwebs.orders import least_order
from tagwebs.reaching import rim
from tagwebs.rows import row_of
from tagwebs.shuts import Blocking, Shut


class LeastRow:
    """The least number of flying seekers who catch a swift runner unseen, with the papers that show it."""

    def __init__(self, number, row, shut):
        self.number = number
        self.row = row
        self.shut = shut


def row_answer(web, seekers):
    """A Row of at most this size, or a Shut for so many seekers, a Blocking if the web is plain."""
    check_doorless(web)
    check_seekers(seekers)
    row = smallest_row(web)
    return row if row.size <= seekers else find_shut(web, seekers)


def least_row(web):
    """The LeastRow of a doorless web."""
    check_doorless(web)
    row = smallest_row(web)
    return LeastRow(row.size, row, find_shut(web, row.size - 1))


def smallest_row(web):
    """A Row of the least size, with one bag for each place."""
    return row_of(web, least_order(len(web), lambda before, place: len(rim(web, before))))


def find_shut(web, seekers):
    """A Shut for so many seekers, who do not catch the runner; a Blocking if the web is plain."""
    narrow = narrow_sets(web, seekers)
    family = clean_from(web, seekers, narrow, ())
    if not web.plain:
        return Shut(web, seekers, list(family))
    for places in narrow:
        other = opposite(web, narrow, places)
        if places not in family and other not in family:
            found = clean_from(web, seekers, narrow, places)
            if other in found:
                # Both of them cannot stand in a blocking, so it is the opposite that does.
                found = clean_from(web, seekers, narrow, other)
            family.update(found)
    return Blocking(web, seekers, list(family))
