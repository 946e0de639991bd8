"""Named floors and rows, and orders about them."""

from wholefloors.answers import ANSWERS, FORMS, is_name, order_in
from wholefloors.errors import InvalidName, NothingToUndo, UnknownName, Unorderly, WrongKind
from wholefloors.floors import check_floor, moved_floor
from wholefloors.readers import read_floor
from wholefloors.rows import check_row, stretched_row
from wholefloors.stretches import stretched


class Console:
    """Floors and rows by their names, and what has been done to them."""

    def __init__(self):
        # Behind each name stands ("floor", floor) or ("row", row).
        self._things = {}
        # The names that were kept or dropped, each with what it stood for before, None for nothing.
        self._past = []

    def keep_floor(self, name, floor):
        """Give a floor a name."""
        _check_name(name)
        check_floor(floor)
        self._keep(name, ("floor", floor))

    def keep_row(self, name, row):
        """Give a row a name."""
        _check_name(name)
        check_row(row)
        self._keep(name, ("row", row))

    def drop(self, name):
        """Take a name away."""
        self._past.append((name, self._thing(name)))
        self._things.pop(name)

    def undo(self):
        """Take back what was kept or dropped last."""
        if not self._past:
            raise NothingToUndo(0)
        name, elder = self._past.pop()
        if elder is None:
            self._things.pop(name)
        else:
            self._things[name] = elder

    def floor(self, name):
        """The floor of a name."""
        return self._named("floor", name)

    def row(self, name):
        """The row of a name."""
        return self._named("row", name)

    def names(self):
        """The ascending list of (name, "floor" or "row")."""
        return [(name, self._things[name][0]) for name in sorted(self._things)]

    def order(self, text):
        """Do what a text says, and return the answer."""
        lines = text.split("\n") if isinstance(text, str) else [""]
        told = order_in(lines[0])
        # A floor alone stands on further lines.
        if told is None or (told[0] == "floor") != (len(lines) > 1):
            raise Unorderly(text)
        word, parts = told
        values = self._values(FORMS[word], parts)
        if word in ANSWERS:
            answer = ANSWERS[word]
            return answer(*values)
        if word == "names":
            return "\n".join([name + " " + what for name, what in self.names()]) or "none"
        self._change(word, values, "\n".join(lines[1:]))
        return "done"

    def _change(self, word, values, rest):
        """Do an order that keeps, drops or undoes; the rest is what stands behind its first line."""
        if word == "floor":
            self.keep_floor(values[0], read_floor(rest))
        elif word == "row":
            self.keep_row(values[0], tuple(values[1:]))
        elif word == "moved":
            self.keep_floor(values[0], moved_floor(values[1], tuple(values[2:])))
        elif word == "stretched":
            self.keep_floor(values[0], stretched(values[1], values[2]))
        elif word == "long":
            self.keep_row(values[0], stretched_row(values[1], values[2]))
        elif word == "drop":
            self.drop(values[0])
        else:
            self.undo()

    def _values(self, form, parts):
        """The parts of an order, with what is named in the place of its name."""
        asked = [part for what, part in zip(form, parts) if what in ("floor", "row", "thing")]
        for name in asked:
            self._thing(name)
        values = []
        for what, part in zip(form, parts):
            if what == "thing":
                values.append(self._thing(part))
            elif what in ("floor", "row"):
                values.append(self._named(what, part))
            else:
                values.append(part)
        return values

    def _keep(self, name, thing):
        """Let a name stand for a thing."""
        self._past.append((name, self._things.get(name)))
        self._things[name] = thing

    def _thing(self, name):
        """What a name stands for."""
        if not is_name(name) or name not in self._things:
            raise UnknownName(name)
        return self._things[name]

    def _named(self, what, name):
        """The floor or the row of a name."""
        found, thing = self._thing(name)
        if found != what:
            raise WrongKind(name)
        return thing


def _check_name(told):
    """Raise InvalidName unless told is a name."""
    if not is_name(told):
        raise InvalidName(told)
