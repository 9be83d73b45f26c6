"""Papers: what the seekers, or the runner, can hold up to show who wins a game."""

from tagwebs.errors import BadPaper, CannotSend, UnknownStanding
from tagwebs.games import check_post
from tagwebs.knowing import follow, is_known, is_shaped, starts_of
from tagwebs.rounds import Rounds, is_post_of, posts_of


class Paper:
    """A paper of a game, which is a Ranks or a Lot."""

    def __init__(self, game):
        self.game = game


class Ranks(Paper):
    """The paper of the seekers: standings, each with a number of rounds that are enough and the post to send."""

    def __init__(self, game, first, rows):
        super().__init__(game)
        if not is_post_of(game, first):
            raise BadPaper("first", 0)
        rounds = Rounds(game)
        self.first = first
        self._rows = ranked_rows(rounds, rows)
        check_ranked_answers(rounds, rows, self._rows)
        starts = starts_of(game, first)
        for at in range(len(starts)):
            if starts[at] not in self._rows:
                raise BadPaper("start", at)
        self.rounds = max([0, *[self._rows[standing][0] for standing in starts]])
        self._order = sorted(list(self._rows))

    def __len__(self):
        return len(self._order)

    def __iter__(self):
        return iter(self._order)

    def __contains__(self, standing):
        return is_shaped(standing) and standing in self._rows

    def __eq__(self, other):
        return (
            isinstance(other, Ranks)
            and self.game == other.game
            and self.first == other.first
            and self._rows == other._rows
        )

    def rank(self, standing):
        """The rank in the row of this standing."""
        if standing not in self:
            raise UnknownStanding(standing)
        return self._rows[standing][0]

    def send(self, standing):
        """The post in the row of this standing."""
        if standing not in self:
            raise UnknownStanding(standing)
        return self._rows[standing][1]

    def rows(self):
        """The list of the rows in ascending order of their standings."""
        return [(standing, *self._rows[standing]) for standing in self._order]

    def pruned(self):
        """The Ranks with those rows only to which the play can come if the seekers follow it."""
        rounds = Rounds(self.game)
        reached = {}
        ahead = starts_of(self.game, self.first)
        while ahead:
            standing = ahead.pop()
            if standing not in reached:
                reached[standing] = True
                ahead.extend(follow(rounds, standing, self.send(standing)))
        return Ranks(self.game, self.first, [row for row in self.rows() if row[0] in reached])

    def told(self):
        """In words, within how many rounds the runner is caught."""
        return f"caught within {self.rounds}"


class Lot(Paper):
    """The paper of the runner: standings from each of which it can get away to another one of them."""

    def __init__(self, game, standings):
        super().__init__(game)
        rounds = Rounds(game)
        self._rows = lot_rows(rounds, standings)
        check_lot_answers(rounds, standings, self._rows)
        for at, post in enumerate(posts_of(game)):
            if not any([standing in self._rows for standing in starts_of(game, post)]):
                raise BadPaper("start", at)
        self._order = sorted(list(self._rows))

    def __len__(self):
        return len(self._order)

    def __iter__(self):
        return iter(self._order)

    def __contains__(self, standing):
        return is_shaped(standing) and standing in self._rows

    def __eq__(self, other):
        return isinstance(other, Lot) and self.game == other.game and self._order == other._order

    def entry(self, post):
        """The least first standing of this post that is in the lot."""
        check_post(self.game, post)
        return [standing for standing in starts_of(self.game, post) if standing in self._rows][0]

    def answer(self, standing, post):
        """The least answer that is in the lot, if the seekers send this post in this standing."""
        if standing not in self:
            raise UnknownStanding(standing)
        rounds = Rounds(self.game)
        if not rounds.can_send(standing[0], standing[1][-1], post):
            raise CannotSend(post)
        return [answer for answer in follow(rounds, standing, post) if answer in self._rows][0]

    def rows(self):
        """The list of the standings in ascending order."""
        return list(self._order)

    def told(self):
        """In words, that the runner gets away."""
        return "free for ever"


def ranked_rows(rounds, rows):
    """A dict of the pairs (rank, post) by the standings of the rows, or BadPaper for a row that is wrong in itself."""
    found = {}
    for at, (standing, rank, post) in enumerate(rows):
        if not is_known(rounds, standing) or standing in found or rank < 1:
            raise BadPaper("row", at)
        if not rounds.can_send(standing[0], standing[1][-1], post):
            raise BadPaper("row", at)
        found[standing] = (rank, post)
    return found


def check_ranked_answers(rounds, rows, found):
    """Raise BadPaper for the first row one of whose answers does not have a row with a lesser rank."""
    for at, (standing, rank, post) in enumerate(rows):
        for answer in follow(rounds, standing, post):
            if answer not in found or found[answer][0] >= rank:
                raise BadPaper("answer", at)


def lot_rows(rounds, standings):
    """A dict of the standings, or BadPaper for the first one that is none or occurs again."""
    found = {}
    for at, standing in enumerate(standings):
        if not is_known(rounds, standing) or standing in found:
            raise BadPaper("row", at)
        found[standing] = True
    return found


def check_lot_answers(rounds, standings, found):
    """Raise BadPaper for the first standing in which some post has no answer in the lot."""
    for at, standing in enumerate(standings):
        for post in rounds.sends(standing[0], standing[1][-1]):
            if not any([answer in found for answer in follow(rounds, standing, post)]):
                raise BadPaper("answer", at)
