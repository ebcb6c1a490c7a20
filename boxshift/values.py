"""Tests of values of any kind."""


def is_between(value, least, most):
    """Return whether a value is an integer from least to most."""
    # Python counts booleans as integers, the document does not.
    if not isinstance(value, int) or isinstance(value, bool):
        return False
    return least <= value <= most
