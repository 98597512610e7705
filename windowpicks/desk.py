"""Desks: a live text by commands, which are texts."""

from windowpicks.common import common, least_common
from windowpicks.errors import InvalidCommand
from windowpicks.live import Live
from windowpicks.rules import Rule
from windowpicks.shares import even_share, greatest_share, least_share
from windowpicks.texts import is_decimal

# What stands behind the first word of each command: a number or any word.
FORMS = {
    "put": ("number", "word"),
    "drop": ("number", "number"),
    "change": ("number", "word"),
    "picks": (),
    "shares": (),
    "common": ("word",),
    "least": (),
    "undo": (),
}


class Desk:
    """Does commands with a live text."""

    def __init__(self):
        self.live = None

    def say(self, command):
        """Do a command and return its result."""
        words = _words_of(command)
        if words[0] == "rule":
            return self._begin(" ".join(words[1:]))
        if self.live is None:
            raise InvalidCommand()
        if words[0] in ("put", "drop", "change"):
            return str(self._edit(words[0], int(words[1]), words[2]))
        if words[0] == "undo":
            return "undone" if self.live.undo() else "nothing"
        return _told(self.live, words)

    def _begin(self, text):
        rule = Rule.read(text)
        self.live = Live(rule)
        return str(len(rule.table))

    def _edit(self, word, at, what):
        if word == "put":
            return self.live.put(at, what)
        if word == "drop":
            return self.live.drop(at, int(what))
        return self.live.change(at, what)


def _told(live, words):
    """Return what is told of a live text that stays as it is."""
    if words[0] == "picks":
        return " ".join([str(place) for place in live.picks]) or "none"
    if words[0] == "shares":
        shares = [even_share(live.rule), least_share(live.rule), greatest_share(live.rule)]
        return " ".join([f"{p}/{q}" for p, q in shares])
    if words[0] == "common":
        return ", ".join([f"{p} {q}" for p, q in common(live.rule, live.text, words[1])]) or "none"
    return str(least_common(live.rule))


def _words_of(command):
    """Return the words of a command; raise InvalidCommand for any value that is none."""
    if not isinstance(command, str) or "\n" in command:
        raise InvalidCommand()
    words = command.split(" ")
    if "" in words or not _has_form(words):
        raise InvalidCommand()
    return words


def _has_form(words):
    if words[0] == "rule":
        return len(words) > 1
    if words[0] not in FORMS or len(words) - 1 != len(FORMS[words[0]]):
        return False
    return all([form == "word" or is_decimal(word, 3) for form, word in zip(FORMS[words[0]], words[1:])])
