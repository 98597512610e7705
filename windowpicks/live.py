"""Texts that are edited, and keep their picks."""

from windowpicks.errors import InvalidEdit, Refused
from windowpicks.picks import picks
from windowpicks.texts import is_between, is_sequence, is_text


class Live:
    """A text that is edited. What it was ahead of each deed is kept, so that the deed can be taken back."""

    def __init__(self, rule, text=""):
        self._rule = rule
        self._text = text
        self._picks = picks(rule, text)
        self._deeds = ()

    @property
    def rule(self):
        """The rule by which places are picked."""
        return self._rule

    @property
    def text(self):
        """The text as it is now."""
        return self._text

    @property
    def picks(self):
        """The ascending tuple of the picked places of the text."""
        return self._picks

    def put(self, at, letters):
        """Put letters in, so that the first one has this place; return how many picks there are then."""
        return self._edit(("put", at, letters))

    def drop(self, at, many):
        """Take so many letters out, from this place on; return how many picks there are then."""
        return self._edit(("drop", at, many))

    def change(self, at, letter):
        """Change the letter at this place into this one; return how many picks there are then."""
        return self._edit(("change", at, letter))

    def several(self, edits):
        """Do all edits of a row, or none; return how many picks there are then."""
        if not is_sequence(edits):
            raise Refused(0)
        text = self._text
        for at, edit in enumerate(edits):
            text = _edited(self._rule.letters, text, edit)
            if text is None:
                raise Refused(at)
        return self._do(text)

    def undo(self):
        """Take back the last deed; return whether there was one."""
        if not self._deeds:
            return False
        self._text, self._picks = self._deeds[-1]
        self._deeds = self._deeds[:-1]
        return True

    def within(self, work):
        """Return what work(live) returns; behind it all is as it was ahead."""
        text, places, deeds = self._text, self._picks, self._deeds
        try:
            return work(self)
        finally:
            self._text, self._picks, self._deeds = text, places, deeds

    def __len__(self):
        return len(self._deeds)

    def _edit(self, edit):
        text = _edited(self._rule.letters, self._text, edit)
        if text is None:
            raise InvalidEdit()
        return self._do(text)

    def _do(self, text):
        places = picks(self._rule, text)
        self._deeds = self._deeds + ((self._text, self._picks),)
        self._text, self._picks = text, places
        return len(places)


def _edited(letters, text, edit):
    """Return the text behind an edit (any value), or None if this is none that can be done."""
    if not isinstance(edit, tuple) or len(edit) != 3:
        return None
    word, at, what = edit
    if not isinstance(word, str) or not is_between(at, 0, len(text)):
        return None
    if word == "put" and is_text(letters, what) and what != "":
        return text[:at] + what + text[at:]
    if word == "drop" and is_between(what, 1, len(text) - at):
        return text[:at] + text[at + what:]
    if word == "change" and at < len(text) and is_text(letters, what) and len(what) == 1:
        return text[:at] + what + text[at + 1:]
    return None
