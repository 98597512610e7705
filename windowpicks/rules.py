"""Rules: each one tells which piece is picked from each window."""

from windowpicks.errors import InvalidLetters, InvalidOrder, InvalidRule, InvalidText
from windowpicks.texts import check_letters, count_of, is_between, is_decimal, is_digits, is_order, is_sequence
from windowpicks.texts import number_of, texts_of


class Rule:
    """An alphabet, the size of the windows, and the offset that is picked from each window."""

    def __init__(self, letters, w, k, table):
        _check_sizes(letters, w, k)
        if not _is_table(letters, w, k, table):
            raise InvalidRule("table")
        self.letters = letters
        self.w = w
        self.k = k
        self.table = tuple(table)

    @classmethod
    def by_order(cls, letters, w, k, order, last=False):
        """Return the rule that picks the piece that comes first in an order of all pieces."""
        _check_sizes(letters, w, k)
        if not is_order(letters, k, order):
            raise InvalidOrder()
        ranks = {piece: rank for rank, piece in enumerate(order)}
        return cls(letters, w, k, _first_offsets(letters, w, [ranks[piece] for piece in texts_of(letters, k)], last))

    @classmethod
    def read(cls, text):
        """Return the rule with a text."""
        if not _is_rule_text(text):
            raise InvalidText(0)
        words = text.split(" ")
        return cls(int(words[1]), int(words[3]), int(words[5]), [int(digit) for digit in words[7]])

    def offset(self, window):
        """Return the offset of the piece that is picked from a window."""
        if not isinstance(window, str) or len(window) != self.w + self.k - 1:
            raise InvalidLetters(0)
        check_letters(self.letters, window)
        return self.table[number_of(self.letters, window)]

    @property
    def turned(self):
        """Return the rule that does in each text what this one does in the text read backwards."""
        backwards = _numbers_backwards(self.letters, self.w + self.k - 1)
        return Rule(self.letters, self.w, self.k, [self.w - 1 - self.table[number] for number in backwards])

    def __eq__(self, other):
        if not isinstance(other, Rule):
            return False
        return (self.letters, self.w, self.k, self.table) == (other.letters, other.w, other.k, other.table)

    def __str__(self):
        digits = "".join([str(at) for at in self.table])
        return f"letters {self.letters} w {self.w} k {self.k} table {digits}"


def is_forward(rule):
    """Return whether no window picks an earlier place than the one that begins a place ahead."""
    # The windows that begin a place ahead of the others, for each letter that comes next.
    for letter in range(rule.letters):
        onward = rule.table[letter::rule.letters] * rule.letters
        if not all([at <= other + 1 for at, other in zip(rule.table, onward)]):
            return False
    return True


def order_of(rule):
    """Return some order of all pieces that makes a rule, or None."""
    ahead = _pieces_ahead(rule)
    if ahead is None:
        return None
    placed = {}
    while len(placed) < len(ahead):
        ready = [piece for piece in ahead if piece not in placed and _are_in(ahead[piece], placed)]
        if not ready:
            return None
        for piece in ready:
            placed[piece] = True
    return tuple(placed)


def _check_sizes(letters, w, k):
    if not is_between(letters, 2, 4):
        raise InvalidRule("letters")
    if not is_between(w, 1, 5):
        raise InvalidRule("w")
    if not is_between(k, 1, 4):
        raise InvalidRule("k")


def _is_table(letters, w, k, table):
    if not is_sequence(table) or len(table) != count_of(letters, w + k - 1):
        return False
    # This is asked for each entry of each rule, so it stands here without a call.
    wrong = [at for at in table if not isinstance(at, int) or at is True or at is False or not 0 <= at < w]
    return len(wrong) == 0


def _is_rule_text(text):
    if not isinstance(text, str):
        return False
    words = text.split(" ")
    if len(words) != 8 or words[::2] != ["letters", "w", "k", "table"]:
        return False
    return all([is_decimal(word, 2) for word in words[1:7:2]]) and is_digits(words[7])


def _pieces(window, w, k):
    return [window[at:at + k] for at in range(w)]


def _first_offsets(letters, w, ranks, last):
    """Return for each window the offset of the piece with the least rank, of equal ones the first (or last) one."""
    # Counted from the end that is preferred: so the least key belongs to the piece that is picked.
    marks = [w - 1 - at if last else at for at in range(w)]
    keys = [rank * w + marks[0] for rank in ranks]
    for at in range(1, w):
        longer = [key for key in keys for _ in range(letters)]
        news = [rank * w + marks[at] for rank in ranks] * count_of(letters, at)
        keys = [key if key < new else new for key, new in zip(longer, news)]
    return [marks[key % w] for key in keys]


def _numbers_backwards(letters, length):
    """Return for each text of this length the number of the text read backwards."""
    numbers = [0]
    many = 1
    for _ in range(length):
        numbers = [number + letter * many for number in numbers for letter in range(letters)]
        many = many * letters
    return numbers


def _pieces_ahead(rule):
    """Return for each piece the pieces that must come ahead of it in an order that makes the rule.

    None if some window shows that the rule does not pick the first one of equal pieces.
    """
    ahead = {piece: {} for piece in texts_of(rule.letters, rule.k)}
    for window, at in zip(texts_of(rule.letters, rule.w + rule.k - 1), rule.table):
        pieces = _pieces(window, rule.w, rule.k)
        if pieces[at] in pieces[:at]:
            return None
        for piece in pieces:
            if piece != pieces[at]:
                ahead[piece][pieces[at]] = True
    return ahead


def _are_in(pieces, placed):
    return all([piece in placed for piece in pieces])
