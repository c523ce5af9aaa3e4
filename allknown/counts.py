"""Whole numbers that are handed in, and their refusal."""

from allknown.errors import BadCount


def is_whole(value):
    """Whether the value is a whole number; True and False are none."""
    return isinstance(value, int) and not isinstance(value, bool)


def check_count(value, least, most=None):
    """Raise BadCount unless the value is a whole number from least to most (None: to any)."""
    # The messages don't show the value: Python refuses to write out a very great number.
    if not is_whole(value):
        raise BadCount("this is no whole number")
    if value < least:
        raise BadCount(f"this number is below {least}")
    if most is not None and value > most:
        raise BadCount(f"this number is above {most}")
