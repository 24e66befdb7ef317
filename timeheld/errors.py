"""The errors of the package."""


class TimeError(ValueError):
    """The base class of all errors of the package."""


class BadZone(TimeError):
    """A value is not a zone."""


class BadInstant(TimeError):
    """A value is not an instant within the bounds of arguments."""


class BadReading(TimeError):
    """A value is not a reading within the bounds of arguments."""


class BadLibrary(TimeError):
    """A value is not a library."""


class BadTime(TimeError):
    """A value is not a time of the library in the zone."""


class BadDuration(TimeError):
    """A value is not a duration within the bounds of arguments."""


class BadRule(TimeError):
    """A value is not the name of a rule."""


class BadArguments(TimeError):
    """A value is not a tuple of arguments for the rule."""


class BadKind(TimeError):
    """A value is not a kind of zones."""


class BadRules(TimeError):
    """A value is not a tuple of different rules."""


class NotText(TimeError):
    """A value is not a string."""


class InvalidText(TimeError):
    """A string is not a text of the asked form."""


class NotNow(TimeError):
    """A line cannot be carried out with its integer or at the desk's time."""


class NothingToUndo(TimeError):
    """No line is left to take back."""
