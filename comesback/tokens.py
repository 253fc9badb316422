"""Which numbers of tokens for asking again make a service come back."""

from comesback.rows import check_all, rows

NUMBERS = (None, 0, 1, 2, 3, 4)


def good_tokens(setting, steady, most):
    """Return the numbers of tokens with which the service comes back behind all rows."""
    check_all(setting, steady, most)
    return tuple([tokens for tokens in NUMBERS if is_good(setting, steady, most, tokens)])


def is_good(setting, steady, most, tokens):
    """Tell whether the service comes back behind all rows with this number of tokens."""
    return rows(setting[:7] + (tokens, setting[8]), steady, most)[0] == "always"
