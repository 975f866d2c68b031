"""What kind a value is: the questions that all modules ask."""


def is_number(value, least, most):
    """Whether a value is an integer from least to most."""
    # Python takes True and False for integers, the document does not.
    return isinstance(value, int) and not isinstance(value, bool) and least <= value <= most


def is_tuple(value, least, most):
    """Whether a value is a tuple of least to most items."""
    return isinstance(value, tuple) and least <= len(value) <= most


def is_rising(keys):
    """Whether each of the keys is greater than the one ahead of it, so that they are ascending and unlike."""
    for lower, higher in zip(keys, keys[1:]):
        if lower >= higher:
            return False
    return True
