"""Layouts: the fields of a form, their names and kinds."""
from mendrounds.errors import BadField, BadFilling, BadLayout, BadValue
from mendrounds.values import is_number, is_word

NUMBER = "number"
WORD = "word"
RESERVED = (
    "and", "or", "not", "in", "given", "true", "false", "blank", "number", "word", "needs", "instead",
    "after", "blames", "check", "guard", "barrier", "repair", "default", "exit", "self",
)


def is_name(thing):
    """Whether any value is a name."""
    return is_word(thing) and thing not in RESERVED


def _is_field(thing):
    return isinstance(thing, tuple) and len(thing) == 2 and is_name(thing[0]) and thing[1] in (NUMBER, WORD)


def is_value(kind, thing):
    """Whether any value is a value of the kind."""
    return is_number(thing) if kind == NUMBER else is_word(thing)


def first_wrong(layout, values):
    """The first field whose value in the dict, if it has one there, it may not have; None if there is none."""
    for name in layout.names:
        value = values.get(name)
        if value is not None and not is_value(layout.kind(name), value):
            return name
    return None


def _has_all_fields(layout, thing):
    return isinstance(thing, dict) and len(thing) == len(layout) and all([name in thing for name in layout.names])


def check_filling(layout, thing):
    """Raises BadFilling if any value is not a filling of the layout."""
    if not _has_all_fields(layout, thing):
        raise BadFilling(None)
    wrong = first_wrong(layout, thing)
    if wrong is not None:
        raise BadFilling(wrong)


class Layout:
    """One to five fields, each with a name and a kind."""

    MOST = 5

    def __init__(self, fields):
        if not isinstance(fields, list) or not 1 <= len(fields) <= Layout.MOST:
            raise BadLayout(-1)
        names = []
        for at, field in enumerate(fields):
            if not _is_field(field) or field[0] in names:
                raise BadLayout(at)
            names.append(field[0])
        self.names = tuple(names)
        self._kinds = tuple([field[1] for field in fields])

    def __len__(self):
        return len(self.names)

    def __contains__(self, name):
        return name in self.names

    def __eq__(self, other):
        return isinstance(other, Layout) and self.names == other.names and self._kinds == other._kinds

    def kind(self, name):
        """The kind of a field."""
        if name not in self.names:
            raise BadField(name)
        return self._kinds[self.names.index(name)]

    def fill(self, **values):
        """The filling with these values, blank in the other fields."""
        for name in values:
            if name not in self.names:
                raise BadField(name)
        wrong = first_wrong(self, values)
        if wrong is not None:
            raise BadValue(wrong)
        return {name: values.get(name) for name in self.names}

    def is_filling(self, thing):
        """Whether any value is a filling."""
        return _has_all_fields(self, thing) and first_wrong(self, thing) is None
