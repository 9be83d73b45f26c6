"""What the papers of joined webs have in common: checks of the papers of the two webs, and bags of crossed webs."""

from tagwebs.errors import BadCarry
from tagwebs.parts import old_numbers
from tagwebs.sets import union


def check_bagged(join, first, second):
    """Raise BadCarry unless these are papers with bags of the two webs, and not too many bags."""
    if first.web != join.first:
        raise BadCarry("first")
    if second.web != join.second:
        raise BadCarry("second")
    if len(first.bags) + len(second.bags) > 30:
        raise BadCarry("bags")


def crossed_bags(join, first, second):
    """That one of the two papers with bags which gives the smaller bags of a crossed web, and these bags.

    Each bag has all places of the other web.
    """
    if first.size + len(join.second) <= second.size + len(join.first):
        return (first, [union(old_numbers(join.firsts, bag), join.seconds) for bag in first.bags])
    return (second, [union(old_numbers(join.seconds, bag), join.firsts) for bag in second.bags])


def check_halves(join, seekers, first, second):
    """Raise BadCarry unless the papers for some seekers of the two webs, or None, make one of the joined web."""
    if join.kind == "crossed":
        first_most = seekers - len(join.second)
        second_most = seekers - len(join.first)
    else:
        if (first is None) == (second is None):
            raise BadCarry("first")
        first_most = -1 if first is None else seekers
        second_most = -1 if second is None else seekers
    if not is_half(first, join.first, first_most):
        raise BadCarry("first")
    if not is_half(second, join.second, second_most):
        raise BadCarry("second")


def is_half(paper, web, seekers):
    """True if this is a paper of the web for so many seekers, or None if this number is negative."""
    if paper is None or seekers < 0:
        return paper is None and seekers < 0
    return paper.web == web and paper.seekers == seekers
