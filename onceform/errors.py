"""The refusals of the program."""


class FormError(ValueError):
    """Any refusal."""


class NoStatement(FormError):
    """A text is no statement."""


class NoPull(FormError):
    """A form does not pull together."""


class NoForm(FormError):
    """A text is no form."""


class NoLine(FormError):
    """A line is none that the desk knows."""


class NoName(FormError):
    """A name stands by nothing."""


class NoYesNo(FormError):
    """A form has a worth other than 0 and 1."""


class TooMany(FormError):
    """There are more bits, unknowns, tuples or figures than are taken."""
