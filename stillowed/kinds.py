"""Which values are integers, numbers, names and rows, and the order of rows."""

LONGEST_NAME = 5


def is_integer(value):
    """Whether any value is an integer that is not a bool."""
    return isinstance(value, int) and not isinstance(value, bool)


def is_number(value):
    """Whether any value is an integer from 0 on."""
    return is_integer(value) and value >= 0


def is_number_to(value, most):
    """Whether any value is a number up to `most`."""
    return is_number(value) and value <= most


def is_name(value):
    """Whether any value is a string of 1 to 5 letters from a to z."""
    if not isinstance(value, str) or not 1 <= len(value) <= LONGEST_NAME:
        return False
    return all([is_letter(sign) for sign in value])


def is_letter(sign):
    """Whether a string of one sign is a lower-case letter."""
    return "a" <= sign <= "z"


def is_lot(values):
    """Whether the values of a tuple ascend without duplicates."""
    return all([values[at] < values[at + 1] for at in range(len(values) - 1)])


def row_order(row):
    """The key by which rows are sorted."""
    return (len(row), row)


def ascending(table):
    """A new dict with the keys of `table` in ascending order."""
    return {key: table[key] for key in sorted(table)}


def copied(value):
    """A new dict if the value is a dict, otherwise the value itself."""
    if isinstance(value, dict):
        return {key: value[key] for key in value}
    return value
