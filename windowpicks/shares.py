"""The shares of picked places: over all texts alike, of one text, the greatest and the least one.

A *standing* is a text of 2 w + k - 3 letters: what is known, at a place of an endless text, of the
letters around it. Each text of one letter more is a step, from the standing without its last letter
to the one without its first letter.
"""

from math import gcd

from windowpicks.picks import is_picked
from windowpicks.texts import check_letters, check_lot, is_integer, texts_of


def value_of(p, q):
    """Return the fraction p / q (q from 1 on) in lowest terms."""
    divisor = gcd(p, q)
    return p // divisor, q // divisor


def even_share(rule):
    """Return the share of the texts around a place for which the place is picked."""
    arounds = _steps(rule)
    return value_of(len([around for around in arounds if is_picked(rule, around)]), len(arounds))


def share(rule, text):
    """Return the share of picked places of a text that is repeated without end."""
    check_letters(rule.letters, text)
    size = rule.w + rule.k - 1
    # The windows of one repetition reach into the following ones.
    repeated = text + text * size
    places = [(at + rule.offset(repeated[at:at + size])) % len(text) for at in range(len(text))]
    return value_of(len(set(places)), len(text))


def greatest_share(rule, lot=()):
    """Return the greatest share of the texts that have no piece of a lot if repeated, or None."""
    return _utmost_share(rule, True, lot)


def least_share(rule, lot=()):
    """Return the least share of the texts that have no piece of a lot if repeated, or None."""
    return _utmost_share(rule, False, lot)


def ring(rule, is_greatest, lot=()):
    """Return some text that has the greatest (or least) share, and no piece of a lot, or None."""
    utmost = _utmost_share(rule, is_greatest, lot)
    if utmost is None:
        return None
    worths = _worths(rule, utmost, is_greatest, lot)
    sums = _greatest_sums(_standings(rule), worths)
    # The sums rise by the worth of each step at least. Around the rings with the utmost share the
    # worths come to 0, so there they rise by just that; and each such ring has this share.
    return _some_ring([step for step in worths if sums[step[1:]] == sums[step[:-1]] + worths[step]])


def heights(rule, share, is_greatest, lot=()):
    """Return some paper that shows that no share is greater (or less) than this one, or None."""
    check_lot(rule.letters, rule.k, lot)
    standings = _standings(rule)
    sums = _greatest_sums(standings, _worths(rule, share, is_greatest, lot))
    if sums is None:
        return None
    return tuple([_sign(is_greatest) * sums[standing] for standing in standings])


def heights_hold(rule, share, is_greatest, value, lot=()):
    """Return whether any value is a paper that shows that no share is greater (or less)."""
    check_lot(rule.letters, rule.k, lot)
    standings = _standings(rule)
    if not isinstance(value, tuple) or len(value) != len(standings):
        return False
    if not all([is_integer(height) for height in value]):
        return False
    sums = {standing: _sign(is_greatest) * height for standing, height in zip(standings, value)}
    worths = _worths(rule, share, is_greatest, lot)
    return all([sums[step[1:]] >= sums[step[:-1]] + worths[step] for step in worths])


def _standings(rule):
    return texts_of(rule.letters, 2 * rule.w + rule.k - 3)


def _steps(rule):
    return texts_of(rule.letters, 2 * rule.w + rule.k - 2)


def _sign(is_greatest):
    # The least share is the greatest one if all shares are taken below 0.
    return 1 if is_greatest else -1


def _worths(rule, share, is_greatest, lot):
    """Return for each step without a piece of a lot by how much, q times, it beats a share p / q."""
    p, q = share
    steps = [step for step in _steps(rule) if not any([piece in step for piece in lot])]
    return {step: _sign(is_greatest) * (q * int(is_picked(rule, step)) - p) for step in steps}


def _utmost_share(rule, is_greatest, lot):
    check_lot(rule.letters, rule.k, lot)
    mean = _greatest_mean(_standings(rule), _worths(rule, (0, 1), is_greatest, lot))
    if mean is None:
        return None
    p, q = mean
    return value_of(_sign(is_greatest) * p, q)


def _greatest_mean(standings, worths):
    """Return the greatest mean worth of the steps around a ring, as a pair, or None without a ring.

    It is the greatest one, of all standings that end some walk of as many steps as there are
    standings, of the least means of what the best such walk has more than each best shorter one
    that ends there (a theorem of Karp's).
    """
    rows = [{standing: 0 for standing in standings}]
    for _ in standings:
        rows.append(_sums_a_step_on(rows[-1], worths))
    means = [_least_mean(rows, standing) for standing in rows[-1]]
    greatest = None
    for mean in means:
        if greatest is None or _is_less(greatest, mean):
            greatest = mean
    return greatest


def _sums_a_step_on(sums, worths):
    """Return the greatest sums of the walks of one step more, for each standing that ends one."""
    onward = {}
    for step in worths:
        start, end = step[:-1], step[1:]
        if start in sums:
            total = sums[start] + worths[step]
            onward[end] = max(onward.get(end, total), total)
    return onward


def _least_mean(rows, standing):
    many = len(rows) - 1
    least = None
    # The end of a walk is the end of a walk of each lesser length, too: it stands in all rows.
    for shorter in range(many):
        mean = rows[many][standing] - rows[shorter][standing], many - shorter
        if least is None or _is_less(mean, least):
            least = mean
    return least


def _is_less(one, other):
    return one[0] * other[1] < other[0] * one[1]


def _greatest_sums(standings, worths):
    """Return the greatest sum of the walks to each standing, or None if the sums grow without end."""
    sums = {standing: 0 for standing in standings}
    # Without a ring that brings more than 0 no best walk comes to a standing twice.
    for _ in standings:
        raised = False
        for step in worths:
            total = sums[step[:-1]] + worths[step]
            if total > sums[step[1:]]:
                sums[step[1:]] = total
                raised = True
        if not raised:
            return sums
    return None


def _some_ring(steps):
    """Return the last letters of the steps around some ring of these steps (there is one)."""
    onward = {step[:-1]: step for step in steps}
    many = 0
    # Steps that lead to where no step goes on belong to no ring.
    while len(onward) != many:
        many = len(onward)
        onward = {step[:-1]: step for step in steps if step[1:] in onward}
    standing = min(list(onward))
    for _ in range(many):
        standing = onward[standing][1:]
    text = ""
    at = standing
    while text == "" or at != standing:
        text = text + onward[at][-1]
        at = onward[at][1:]
    return text
