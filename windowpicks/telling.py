"""Texts that are told back from their picked places, and what two texts surely have in common."""

from windowpicks.common import least_common
from windowpicks.texts import ALPHABET, check_letters, is_text


def texts_with(rule, length, told):
    """Return the ascending tuple of all texts of a length of which just these pairs are picked."""
    return tuple(sorted([text for way in _ways(rule, length, told, [""]) for text in way]))


def count_with(rule, length, told):
    """Return the number of these texts."""
    return sum(_ways(rule, length, told, 1))


def surely_shared(rule, one, other):
    """Return the greatest length of a stretch of both texts that surely has a common pick, or 0."""
    check_letters(rule.letters, one)
    check_letters(rule.letters, other)
    least = least_common(rule)
    longest = least - 1
    for begin in range(len(one)):
        # One letter more can be had only if there is such a stretch without it.
        while begin + longest < len(one) and one[begin:begin + longest + 1] in other:
            longest += 1
    return longest if longest >= least else 0


def _ways(rule, length, told, start):
    """Return the texts of a length with just these picks, in lists; or numbers of them, as `start` is [""] or 1."""
    choices = _choices(rule, length, told)
    if choices is None:
        return []
    places = sum([1 << place for place, _ in told])
    size = rule.w + rule.k - 1
    # By the number of the last letters, and the set of the places picked, counted from the next window on.
    ways = {(0, 0): start}
    for at, letters in enumerate(choices):
        begin = at - (size - 1)
        ways = _a_letter_on(rule, ways, letters, places >> begin if begin >= 0 else None)
    # There is no next window by which one of the places could be picked.
    left = places >> max(0, length - (size - 1))
    return [ways[number, there] for number, there in ways if there == left]


def _choices(rule, length, told):
    """Return for each place of the texts the letters that can stand there, as numbers; None if there are no texts."""
    known = {}
    last = -1
    for place, piece in told:
        if place <= last or place + rule.k > length or len(piece) != rule.k or not is_text(rule.letters, piece):
            return None
        last = place
        for at, letter in enumerate(piece):
            if known.setdefault(place + at, letter) != letter:
                return None
    every = list(range(rule.letters))
    return [[ALPHABET.index(known[at])] if at in known else every for at in range(length)]


def _a_letter_on(rule, ways, letters, told):
    """Return the ways of the texts with one letter more.

    `told` is the set of the places told, counted from the window that ends with this letter on, or
    None if no window ends there.
    """
    table, many = rule.table, len(rule.table) // rule.letters
    onward = {}
    for (number, there), way in ways.items():
        for letter in letters:
            window = number * rule.letters + letter
            picked = there
            if told is not None:
                picked = there | 1 << table[window]
                # Each place picked is told; and the first place here is not picked by a later window.
                if picked & ~told or told & ~picked & 1:
                    continue
                picked = picked >> 1
            more = way if isinstance(way, int) else [text + ALPHABET[letter] for text in way]
            state = window % many, picked
            onward[state] = onward[state] + more if state in onward else more
    return onward
