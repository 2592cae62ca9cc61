"""The errors of the package. Each holds, under the names of its fields, what it is made with."""


class MendroundsError(ValueError):
    """What is passed is wrong."""


class BadNumber(MendroundsError):
    """No number can be made of this."""

    def __init__(self, thing):
        self.thing = thing


class BadLayout(MendroundsError):
    """The entry with this index is no field; -1 for the list as a whole."""

    def __init__(self, at):
        self.at = at


class BadField(MendroundsError):
    """This is not a field of the layout."""

    def __init__(self, name):
        self.name = name


class BadValue(MendroundsError):
    """The value for this field is neither one of its kind nor blank."""

    def __init__(self, name):
        self.name = name


class BadFilling(MendroundsError):
    """The value of this field is wrong; None if the thing as a whole is no filling."""

    def __init__(self, name):
        self.name = name


class BadCondition(MendroundsError):
    """No condition goes on as it began from this position; -1 if there is no text."""

    def __init__(self, at):
        self.at = at


class BadCheck(MendroundsError):
    """This part of a check is wrong."""

    def __init__(self, what):
        self.what = what


class BadForm(MendroundsError):
    """The check or line with this index is wrong; -1 for the form as a whole."""

    def __init__(self, at):
        self.at = at


class BadPattern(MendroundsError):
    """This is not a pattern of the space."""

    def __init__(self, pattern):
        self.pattern = pattern


class NoFilling(MendroundsError):
    """No filling that is asked for has this pattern."""

    def __init__(self, pattern):
        self.pattern = pattern


class Unlike(MendroundsError):
    """The layouts, or the forms, are not equal."""


class TooMany(MendroundsError):
    """There are more of these than the package works on."""

    def __init__(self, what):
        self.what = what


class BadTelling(MendroundsError):
    """This is not a telling."""

    def __init__(self, telling):
        self.telling = telling


class BadChange(MendroundsError):
    """The entry with this index is not a change of the form."""

    def __init__(self, at):
        self.at = at


class BadBatch(MendroundsError):
    """The row with this index is no filling; -1 for the batch as a whole."""

    def __init__(self, at):
        self.at = at


class NoCheck(LookupError):
    """The form has no check of this name."""

    def __init__(self, name):
        self.name = name


class NotTold(LookupError):
    """The check of this name is not told."""

    def __init__(self, name):
        self.name = name


class Refused(RuntimeError):
    """The check of this name is told, and the cause, if there is one, made it fail."""

    def __init__(self, name, blames, cause):
        self.name = name
        self.blames = blames
        self.cause = cause


class Locked(RuntimeError):
    """The field of this name may not be changed now."""

    def __init__(self, name):
        self.name = name


class Unmet(RuntimeError):
    """The checks of these names were seen and are not met."""

    def __init__(self, names):
        self.names = names


class Closed(RuntimeError):
    """The sheet is closed."""


class Started(RuntimeError):
    """Something was sent already."""
