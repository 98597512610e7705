"""A share that no forward rule gets below, and forward rules with the least share."""

from windowpicks.rules import Rule, is_forward
from windowpicks.shares import even_share, value_of
from windowpicks.texts import count_of


def bound(letters, w, k):
    """Return a value that the even share of no forward rule is less than."""
    size = w + k
    # The texts of each length that is a period of the others which no shorter period makes.
    alone = {}
    total = 0
    for period in range(1, size + 1):
        if size % period == 0:
            shorter = [alone[one] for one in alone if period % one == 0]
            alone[period] = count_of(letters, period) - sum(shorter)
            total += alone[period] // period * _rounded_up(period, w)
    return value_of(total, count_of(letters, size))


def is_met(rule):
    """Return whether a rule is forward and its even share is the bound of its sizes."""
    return is_forward(rule) and even_share(rule) == bound(rule.letters, rule.w, rule.k)


def best_rule(letters, w, k):
    """Return some forward rule with the least even share of all forward ones."""
    search = Search(letters, w, k)
    search.go_on(0, sum(search.needs))
    return Rule(letters, w, k, search.best)


class Search:
    """Goes through the tables of forward rules, but for those that surely are no better than the best one so far.

    The two windows of a text of w + k letters pick the same place, or it *parts* them: the fewer texts
    do, the better is a forward rule. Which ones do is seen from two entries of the table; and of each
    necklace (a *ring* of texts) there are some that do, whatever the table is.
    """

    def __init__(self, letters, w, k):
        self.w = w
        ring_of, rings = _turned_rings(letters, w + k)
        self.needs = [_rounded_up(len(ring), w) for ring in rings]
        self.parted = [0] * len(rings)
        # Windows of a necklace stand side by side: so many texts are seen early.
        self.windows = [window for ring in _turned_rings(letters, w + k - 1)[1] for window in ring]
        self.table = [0] * len(self.windows)
        self.best = None
        self.fewest = None
        ranks = {window: rank for rank, window in enumerate(self.windows)}
        self.steps = [[] for _ in self.windows]
        for text, ring in enumerate(ring_of):
            begin, end = text // letters, text % len(self.windows)
            self.steps[max(ranks[begin], ranks[end])].append((begin, end, ring))

    def go_on(self, rank, fewest):
        """Try all entries for the windows from this one on; return whether none better than what is found can be.

        At least `fewest` texts part their windows, as far as the entries ahead of these tell.
        """
        if rank == len(self.windows):
            self.best = tuple(self.table)
            self.fewest = fewest
            return fewest == sum(self.needs)
        for at in range(self.w):
            self.table[self.windows[rank]] = at
            rings = self.parted_rings(rank)
            if rings is None:
                continue
            for ring in rings:
                fewest += int(self.parted[ring] >= self.needs[ring])
                self.parted[ring] += 1
            if (self.fewest is None or fewest < self.fewest) and self.go_on(rank + 1, fewest):
                return True
            for ring in rings:
                self.parted[ring] -= 1
                fewest -= int(self.parted[ring] >= self.needs[ring])
        return False

    def parted_rings(self, rank):
        """Return the rings of the texts that part, of those seen with this window, or None if it is not forward."""
        rings = []
        for begin, end, ring in self.steps[rank]:
            ahead = self.table[begin] - self.table[end]
            if ahead > 1:
                return None
            if ahead < 1:
                rings.append(ring)
        return rings


def _rounded_up(number, divisor):
    return -(-number // divisor)


def _turned_rings(letters, length):
    """Return for each text of a length the number of its ring of turned texts, and the rings."""
    many = count_of(letters, length)
    unit = many // letters
    ring_of = [None] * many
    rings = []
    for first in range(many):
        ring = []
        at = first
        while ring_of[at] is None:
            ring_of[at] = len(rings)
            ring.append(at)
            at = at % unit * letters + at // unit
        if ring:
            rings.append(ring)
    return ring_of, rings
