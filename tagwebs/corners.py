"""Corners: foldings of plain webs, and what they tell about one walking seeker."""

from tagwebs.checking import check_place, check_places, check_plain
from tagwebs.errors import BadFold, BadNumber, OutOfReach


def covers(web, left, u, v):
    """True if, while these places are left, u is covered by v."""
    check_plain(web)
    check_places(web, left)
    check_place(web, u)
    check_place(web, v)
    return is_covered(web, left, u, v)


class Folding:
    """Folds of a plain web: each takes away a place that is covered by another one."""

    def __init__(self, web, folds):
        check_plain(web)
        self.web = web
        self.folds = tuple([tuple(fold) for fold in folds])
        self.left = left_by(web, self.folds)

    def __eq__(self, other):
        return isinstance(other, Folding) and self.web == other.web and self.folds == other.folds

    @property
    def whole(self):
        """True if one place is left."""
        return len(self.left) == 1

    @property
    def finished(self):
        """True if no more fold can be taken."""
        return least_fold(self.web, self.left) is None

    def shadow(self, level, place):
        """The place to which so many folds, from the first on, lead from this one."""
        if not 0 <= level <= len(self.folds):
            raise BadNumber(level)
        check_place(self.web, place)
        for u, v in self.folds[:level]:
            if place == u:
                place = v
        return place

    def chase(self, seeker, runner):
        """The first shadow of the runner's place that is in the steps of the seeker's place."""
        check_place(self.web, seeker)
        check_place(self.web, runner)
        for level in range(len(self.folds) + 1):
            place = self.shadow(level, runner)
            if place in self.web.steps(seeker, 0):
                return place
        raise OutOfReach()


def fold_up(web):
    """The finished folding that always takes the least fold."""
    check_plain(web)
    folds = []
    left = tuple(range(len(web)))
    fold = least_fold(web, left)
    while fold is not None:
        folds.append(fold)
        left = without(left, fold[0])
        fold = least_fold(web, left)
    return Folding(web, folds)


def is_covered(web, left, u, v):
    """Like covers, for numbers that are known to be those of places."""
    if u == v or u not in left or v not in left:
        return False
    return all([place in web.steps(v, 0) for place in web.steps(u, 0) if place in left])


def without(left, place):
    """The set without this place."""
    return tuple([other for other in left if other != place])


def left_by(web, folds):
    """The set of the places that the folds leave, or BadFold for the first one that cannot be taken."""
    left = tuple(range(len(web)))
    for at, fold in enumerate(folds):
        if len(fold) != 2 or not is_covered(web, left, fold[0], fold[1]):
            raise BadFold(at)
        left = without(left, fold[0])
    return left


def least_fold(web, left):
    """The least fold that can be taken while these places are left, or None if there is none."""
    found = [(u, v) for u in left for v in left if is_covered(web, left, u, v)]
    return min(found) if found else None
