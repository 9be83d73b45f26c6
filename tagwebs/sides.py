"""Tables of sides on plain webs."""

from tagwebs.checking import check_plain
from tagwebs.errors import BadPost, BadSides
from tagwebs.reaching import around, pieces
from tagwebs.sets import is_set, sets_up_to


class Sides:
    """For each post of at most so many seekers one of the pieces that it leaves; all of these touch."""

    def __init__(self, web, seekers, rows):
        check_plain(web)
        if not 0 <= seekers <= 8:
            raise BadSides("seekers", 0)
        self.web = web
        self.seekers = seekers
        self._sides = checked_sides(web, seekers, rows)
        self._order = sets_up_to(len(web), seekers)
        for at, post in enumerate(self._order):
            if post not in self._sides:
                raise BadSides("posts", at)

    def __len__(self):
        return len(self._order)

    def __eq__(self, other):
        return (
            isinstance(other, Sides)
            and self.web == other.web
            and self.seekers == other.seekers
            and self._sides == other._sides
        )

    def side(self, post):
        """The side of a post."""
        if post not in self._sides:
            raise BadPost(post)
        return self._sides[post]

    def rows(self):
        """The list of the rows in ascending order."""
        return [(post, self._sides[post]) for post in self._order]


def checked_sides(web, seekers, rows):
    """A dict of the sides by their posts, or BadSides for the first row that is wrong."""
    found = {}
    nears = []
    for at, (post, side) in enumerate(rows):
        if len(post) > seekers or not is_set(post, len(web)) or post in found:
            raise BadSides("row", at)
        if side not in pieces(web, post):
            raise BadSides("row", at)
        # Sides touch if one of them has a place that is in the other one or a step from it.
        if not all([any([place in near for place in side]) for near in nears]):
            raise BadSides("row", at)
        found[post] = side
        nears.append(around(web, side))
    return found
