"""The refusals: each a class straight under FieldError, made with one text."""


class FieldError(ValueError):
    pass


class NoValue(FieldError):
    pass


class NoBytes(FieldError):
    pass


class NoMake(FieldError):
    pass


class NoText(FieldError):
    pass


class NoName(FieldError):
    pass


class NoRow(FieldError):
    pass
