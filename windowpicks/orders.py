"""Orders of pieces: their shares, the best one, and papers that show that none is better.

A *set* of pieces is an integer: its binary digit number i is 1 if it has the piece number i.
"""

from windowpicks.rules import Rule
from windowpicks.shares import even_share, value_of
from windowpicks.texts import check_lot, count_of, is_integer, number_of, texts_of


def order_share(letters, w, k, order):
    """Return the share of the rule by an order, over all texts alike."""
    return even_share(Rule.by_order(letters, w, k, order))


def best_share(letters, w, k):
    """Return the least such share of all orders."""
    return value_of(_least_prices(_costs(letters, w, k))[0], count_of(letters, w + k))


def best_order(letters, w, k):
    """Return some order with the least share."""
    costs = _costs(letters, w, k)
    least = _least_prices(costs)
    order = []
    lot = 0
    for _ in range(count_of(letters, k)):
        bit = min([bit for bit, one in costs[lot] if one + least[lot | bit] == least[lot]])
        order.append(bit.bit_length() - 1)
        lot = lot | bit
    pieces = texts_of(letters, k)
    return tuple([pieces[at] for at in order])


def cost(letters, w, k, lot, piece):
    """Return the number that a piece brings behind a lot: of texts of w + k letters."""
    barred = sum([1 << number for number in check_lot(letters, k, lot)])
    at = number_of(letters, piece)
    many = count_of(letters, w)
    firsts = _piece_sets(letters, k, w + 1)[at * many:(at + 1) * many]
    # The texts that end with the piece, without their last letter.
    windows = _piece_sets(letters, k, w)
    lasts = [windows[text // letters] for text in range(at, many * count_of(letters, k), count_of(letters, k))]
    is_first = [there & barred == 0 for there in firsts]
    is_last_alone = [there & (barred | 1 << at) == 0 for there in lasts]
    return sum(is_first) + sum(is_last_alone)


def prices(letters, w, k, share):
    """Return some paper that shows that no order has a lesser share than this one, or None."""
    p, q = share
    least = _least_prices(_costs(letters, w, k))
    return tuple(least) if q * least[0] >= p * count_of(letters, w + k) else None


def prices_hold(letters, w, k, share, value):
    """Return whether any value is such a paper."""
    p, q = share
    if not isinstance(value, tuple) or len(value) != 1 << count_of(letters, k):
        return False
    if not all([is_integer(price) for price in value]):
        return False
    if value[-1] > 0 or q * value[0] < p * count_of(letters, w + k):
        return False
    costs = _costs(letters, w, k)
    return all([value[lot] <= one + value[lot | bit] for lot, row in enumerate(costs) for bit, one in row])


def _least_prices(costs):
    """Return for each lot the least sum of costs on a way from it to the lot of all pieces."""
    least = [0] * len(costs)
    for lot in range(len(costs) - 2, -1, -1):
        least[lot] = min([one + least[lot | bit] for bit, one in costs[lot]])
    return least


def _costs(letters, w, k):
    """Return for each lot the pairs of the set of a piece that is not in it, and its cost behind the lot."""
    every = (1 << count_of(letters, k)) - 1
    width = count_of(letters, w + k).bit_length()
    brought = _brought(letters, w, k, width)
    # Those texts have no piece of a lot of which all pieces are others.
    for at in range(count_of(letters, k)):
        bit = 1 << at
        brought = [here + brought[there - bit] if there & bit else here for there, here in enumerate(brought)]
    ones = (1 << width) - 1
    places = [(1 << at, at * width) for at in range(count_of(letters, k))]
    return [[(bit, brought[every - lot] >> place & ones) for bit, place in places if not lot & bit]
            for lot in range(every + 1)]


def _brought(letters, w, k, width):
    """Return for each set of pieces how many texts of w + k letters with just these each piece brings.

    The numbers of all pieces stand in one integer, of so many binary digits for each piece, so that
    they are added together.
    """
    many = count_of(letters, k)
    unit = count_of(letters, w)
    windows = _piece_sets(letters, k, w)
    brought = [0] * (1 << many)
    for text, there in enumerate(_piece_sets(letters, k, w + 1)):
        brought[there] += 1 << (text // unit * width)
        last = text % many
        if not windows[text // letters] >> last & 1:
            brought[there] += 1 << (last * width)
    return brought


def _piece_sets(letters, k, many):
    """Return for each text of so many pieces the set of its pieces."""
    bits = [1 << at for at in range(count_of(letters, k))]
    sets = list(bits)
    for more in range(1, many):
        longer = [there for there in sets for _ in range(letters)]
        sets = [there | bit for there, bit in zip(longer, bits * count_of(letters, more))]
    return sets
