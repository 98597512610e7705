"""Whether two rules of one alphabet pick the same places."""

from windowpicks.masks import around_row, lowest_text, picked_mask


def alike(p, q):
    """Return whether two rules pick the same places in each endless text."""
    ours, theirs = _masks(p, q)
    return ours == theirs


def no_more(p, q):
    """Return whether the second rule picks each place that the first one picks."""
    ours, theirs = _masks(p, q)
    return ours & ~theirs == 0


def parting(p, q):
    """Return some text and a place of it that just one of two rules picks whatever stands around, or None."""
    ours, theirs = _masks(p, q)
    if ours == theirs:
        return None
    ahead, behind = _sides(p, q)
    return lowest_text(p.letters, ahead + 1 + behind, ours ^ theirs), ahead


def _sides(p, q):
    """Return how many letters ahead of a place and behind it tell whether two rules pick it."""
    return max(p.w, q.w) - 1, max(p.w + p.k, q.w + q.k) - 2


def _masks(p, q):
    """Return the masks of the texts with so many letters on both sides of the place that the rules pick."""
    ahead, behind = _sides(p, q)
    return picked_mask(p, around_row(p), ahead, behind), picked_mask(q, around_row(q), ahead, behind)
