"""Least numbers of joined webs, by those of the two webs."""

from tagwebs.bagging import LeastBags, bag_answer, least_bags
from tagwebs.checking import check_doorless, check_plain
from tagwebs.clearing import LeastRow, least_row, row_answer
from tagwebs.errors import BadCarry
from tagwebs.joinbags import join_bags, join_sides
from tagwebs.joinplays import check_apart
from tagwebs.joinrows import join_row, join_shut
from tagwebs.leasts import least


def sum_bags(join):
    """The LeastBags of the joined web, whose papers are made of papers of the two webs."""
    check_plain(join.web)
    one = least_bags(join.first)
    other = least_bags(join.second)
    bags = join_bags(join, one.bags, other.bags)
    fewer = bags.size - 1
    if join.kind == "tied" and fewer >= max(one.number, other.number):
        # Neither of the two webs has a passage, so none of their papers is for one seeker.
        return LeastBags(bags.size, bags, bag_answer(join.web, fewer))
    first, second = halves(join, fewer, one.number > fewer, bag_answer)
    return LeastBags(bags.size, bags, join_sides(join, fewer, first, second))


def sum_row(join):
    """The LeastRow of two webs that are apart or crossed, whose papers are made of papers of the two webs."""
    check_doorless(join.web)
    if join.kind not in ("apart", "crossed"):
        raise BadCarry("kind")
    one = least_row(join.first)
    row = join_row(join, one.row, least_row(join.second).row)
    fewer = row.size - 1
    first, second = halves(join, fewer, one.number > fewer, row_answer)
    return LeastRow(row.size, row, join_shut(join, fewer, first, second))


def halves(join, seekers, on_first, answer):
    """The papers of the two webs, or None, that show that so many seekers do not catch the runner on the joined web.

    If the webs are not crossed, one paper is enough; on_first tells if it is that of the first web.
    """
    if join.kind == "crossed":
        first_most = seekers - len(join.second)
        second_most = seekers - len(join.first)
    else:
        first_most = seekers if on_first else -1
        second_most = -1 if on_first else seekers
    first = answer(join.first, first_most) if first_most >= 0 else None
    second = answer(join.second, second_most) if second_most >= 0 else None
    return (first, second)


def sum_least(join, *, travel="walk", pace="step", late=0, most=6000):
    """The least number of seekers on two webs that are apart, None if those who walk would be too many."""
    check_apart(join)
    first = least(join.first, travel=travel, pace=pace, late=late, most=most).number
    second = least(join.second, travel=travel, pace=pace, late=late, most=most).number
    if first is None or second is None:
        return None
    if travel == "fly":
        return max(first, second)
    return first + second if first + second <= 4 else None
