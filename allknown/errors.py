"""The errors of allknown, one class for each kind of refusal."""


class WebError(ValueError):
    """Something that was handed in is refused."""


class BadWeb(WebError):
    """What was handed in is no web."""


class BadCount(WebError):
    """What was handed in is no whole number, or one that is too small or too great."""


class TooFew(WebError):
    """The web has fewer people than are enough for the sizes."""
