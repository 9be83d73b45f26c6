"""Tables: the ranks of all standings that come up in a game."""

from tagwebs.checking import check_most
from tagwebs.errors import UnknownStanding
from tagwebs.games import check_post
from tagwebs.knowing import is_shaped, starts_of
from tagwebs.moves import all_starts, explore, ranks_of
from tagwebs.rounds import Rounds


class Table:
    """The standings that come up in a game, with their ranks."""

    def __init__(self, game, *, most=6000):
        check_most(most)
        self.game = game
        self._moves = explore(Rounds(game), all_starts(game), most)
        self._ranks = ranks_of(self._moves)
        self._order = sorted(list(self._moves))

    def __len__(self):
        return len(self._order)

    def __iter__(self):
        return iter(self._order)

    def __contains__(self, standing):
        return is_shaped(standing) and standing in self._moves

    def rank(self, standing):
        """The rank of a standing that comes up, or None if it has none."""
        if standing not in self:
            raise UnknownStanding(standing)
        return self._ranks.get(standing)

    def longest(self, post):
        """The greatest rank of the first standings of a post, or None if one of them has none."""
        check_post(self.game, post)
        ranks = [self._ranks.get(standing) for standing in starts_of(self.game, post)]
        return None if None in ranks else max([0, *ranks])

    def least_post(self, standing):
        """The least post all of whose answers have lesser ranks than the standing, which has a rank."""
        rank = self.rank(standing)
        for post, found in self._moves[standing]:
            if all([self._ranks.get(answer, rank) < rank for answer in found]):
                return post
        return None
