"""Walks among standings: the ring with the least mean, and sums of walks.

A *standing* is a text of some letters, and each text of one letter more is a *step*, from the
standing without its last letter to the one without its first letter; both go by their numbers. So the
steps from the standing x are x * letters and those behind it, and the number of the standing where a
step ends is what the number of standings leaves of that of the step. Each step has a *weight*.

`sums` are numbers of the standings, and *settled* if that of the beginning of each step is at most its
weight plus that of its end. They are kept times the number of steps: so the sum that a step brings,
plus the number of the step, is least for the step that brings least, and tells which one it is.
"""


def least_ring(letters, weights):
    """Return the ring of steps with the least mean weight, as a list of steps."""
    many = len(weights) // letters
    chosen = [key % len(weights) for key in _least_keys(letters, _keys_of(weights), [0] * many)]
    ring = _least_chosen_ring(weights, chosen)
    while True:
        # A ring has a lesser mean just if its weights, less this mean each, come to less than 0.
        total = sum([weights[step] for step in ring])
        beyond = [weight * len(ring) - total for weight in weights]
        better = _settle(letters, beyond, _sums_to(ring[-1] % many, beyond, chosen), chosen)
        if better is None:
            return ring
        ring = better


def settled_sums(letters, weights):
    """Return settled sums, or None if there are none (if the weights around some ring come to less than 0)."""
    many = len(weights) // letters
    sums = [0] * many
    if _settle(letters, weights, sums, [standing * letters for standing in range(many)]) is not None:
        return None
    return [total // len(weights) for total in sums]


def are_settled(letters, weights, sums):
    """Return whether sums are settled."""
    begins = [total for total in sums for _ in range(letters)]
    return all([begin <= weight + end for begin, weight, end in zip(begins, weights, sums * letters)])


def _keys_of(weights):
    many = len(weights)
    return [weight * many + step for step, weight in enumerate(weights)]


def _least_keys(letters, keys, sums):
    """Return for each standing the least sum that a step from it brings, plus the number of the step."""
    totals = [key + total for key, total in zip(keys, sums * letters)]
    least = totals[::letters]
    for letter in range(1, letters):
        least = [one if one < other else other for one, other in zip(least, totals[letter::letters])]
    return least


def _settle(letters, weights, sums, chosen):
    """Lower sums until they are settled, or until steps of a ring that comes to less than 0 are chosen; return it.

    For each standing `chosen` is the step by which its sum was lowered. If there is no end of
    lowering, these steps go round such a ring at some time; to look for it takes longer than to lower.
    """
    keys = _keys_of(weights)
    rounds = 0
    while True:
        least = _least_keys(letters, keys, sums)
        lower = [standing for standing, total in enumerate(sums) if least[standing] < total]
        if not lower:
            return None
        for standing in lower:
            step = least[standing] % len(keys)
            sums[standing] = least[standing] - step
            chosen[standing] = step
        rounds += 1
        if rounds % 3 == 0:
            ring = _least_chosen_ring(weights, chosen)
            if sum([weights[step] for step in ring]) < 0:
                return ring


def _least_chosen_ring(weights, chosen):
    """Return the ring with the least mean weight of those to which one chosen step from each standing leads."""
    best, total, size = None, 0, 1
    for ring in _chosen_rings(chosen):
        weight = sum([weights[step] for step in ring])
        if best is None or weight * size < total * len(ring):
            best, total, size = ring, weight, len(ring)
    return best


def _chosen_rings(chosen):
    many = len(chosen)
    walks = [None] * many
    rings = []
    for first in range(many):
        at = first
        while walks[at] is None:
            walks[at] = first
            at = chosen[at] % many
        # Where this walk comes to itself, it goes round a ring that no earlier one has come to.
        if walks[at] == first:
            ring = [chosen[at]]
            while ring[-1] % many != at:
                ring.append(chosen[ring[-1] % many])
            rings.append(ring)
    return rings


def _sums_to(goal, weights, chosen):
    """Return the sums along the chosen steps to a standing; for those from which it is not reached, the greatest."""
    many = len(chosen)
    before = [[] for _ in chosen]
    for standing, step in enumerate(chosen):
        before[step % many].append(standing)
    sums = [None] * many
    sums[goal] = 0
    ready = [goal]
    while ready:
        at = ready.pop()
        for standing in before[at]:
            if sums[standing] is None:
                sums[standing] = sums[at] + weights[chosen[standing]] * len(weights)
                ready.append(standing)
    greatest = max([total for total in sums if total is not None])
    return [greatest if total is None else total for total in sums]
