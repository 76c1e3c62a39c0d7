"""Which turns of two runs are alike, and how their pieces are turned about."""

from openorder.errors import Unlike


def like_places(one, other):
    """Return, for each turn of the first run, the place of the one like it in the second.

    Raises Unlike(at) for the first turn without one, or with the number of the first run's turns.
    """
    likes = matched(other, one)
    found = {like: at for at, like in enumerate(likes) if like is not None}
    many = len(one.numbers)
    for at in range(many):
        if at not in found:
            raise Unlike(at)
    if len(other.numbers) > many:
        raise Unlike(many)
    return found


def matched(trail, model):
    """Return the list of the places in the model of the turns like those of a run, None for none."""
    named = {}
    ranks = model.ranks()
    for at, turn in enumerate(model.turns()):
        home = model.homes[at]
        named[(model.uppers[home], ranks[home], turn)] = at
    likes = []
    ranks = trail.ranks()
    for at, turn in enumerate(trail.turns()):
        home = trail.homes[at]
        upper = trail.uppers[home]
        like = likes[upper] if upper >= 0 else -1
        likes.append(named.get((like, ranks[home], turn), None))
    return likes


def turned_many(pieces, places):
    """Return how many pairs of the pieces of an evaluation come the other way about."""
    many = 0
    for at, later in enumerate(pieces):
        for earlier in pieces[:at]:
            if places[earlier] > places[later]:
                many += 1
    return many


class Turning:
    """Turns the pieces of a run, one exchange of neighbours after another, into another order.

    places has, for each turn, its place in the other run; exchanges the places, in the run as it is
    then, of the first turns of the pieces that are exchanged with those behind them.
    """

    def __init__(self, trail, places):
        self.trail = trail
        self.places = places
        self.ends = trail.piece_ends()
        self.pieces = trail.pieces()
        self.exchanges = []
        self.inner = {}
        for home, upper in enumerate(trail.uppers):
            self.inner.setdefault(upper, []).append(home)
        for home in self.inner.get(-1, []):
            self.turn_evaluation(home, self.pieces[home][0])

    def turn_evaluation(self, home, start):
        """Turn the pieces of an evaluation that starts at this place, then those in its calls."""
        pieces = self.sorted_pieces(list(self.pieces[home]), start)
        for piece in pieces:
            for inner in self.inner.get(piece, []):
                self.turn_evaluation(inner, start + self.pieces[inner][0] - piece)
            start += self.ends[piece] - piece

    def sorted_pieces(self, pieces, start):
        """Exchange neighbours until the pieces come as in the other run; return them in this order."""
        for many in range(len(pieces)):
            at = many
            while at > 0 and self.places[pieces[at - 1]] > self.places[pieces[at]]:
                at -= 1
                ahead = sum([self.ends[piece] - piece for piece in pieces[:at]])
                self.exchanges.append(start + ahead)
                pieces[at], pieces[at + 1] = pieces[at + 1], pieces[at]
        return pieces
