"""Words of small letters."""


def is_small_word(value, most):
    """True if the value is a string of 1 to so many small letters."""
    if not (isinstance(value, str) and 1 <= len(value) <= most):
        return False
    return all(["a" <= sign <= "z" for sign in value])
