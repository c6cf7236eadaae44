"""Names, paths, lines, numbers and makes, as they are written, and what else several modules ask of plain values."""

MOST_LETTERS = 8
MOST_PATH_WORDS = 4
MOST_SIGNS = 60
MOST_LINES = 20
MOST_MAKE_NUMBERS = 3
GREATEST_NUMBER = 1000000000
MOST_FIGURES = 10
# The sign itself may not stand in a text of this program.
PERCENT_CODE = 37


def rows_of(text):
    # Split would make one row of the text without signs, which has none.
    return text.split("\n") if text != "" else []


def is_name(text):
    return 0 < len(text) <= MOST_LETTERS and all(["a" <= sign <= "z" for sign in text])


def is_path(text):
    parts = text.split("/")
    return len(parts) <= MOST_PATH_WORDS and all([is_name(part) for part in parts])


def is_line_sign(sign):
    return " " <= sign <= "~" and ord(sign) != PERCENT_CODE


def is_line(text):
    return len(text) <= MOST_SIGNS and all([is_line_sign(sign) for sign in text])


def are_figures(text):
    # Not isdigit: it takes figures of other scripts, too.
    return all(["0" <= sign <= "9" for sign in text])


def number_read(text):
    # The length comes first, as Python itself refuses to read very long numbers.
    if not 0 < len(text) <= MOST_FIGURES or not are_figures(text):
        return None
    if text.startswith("0") and text != "0":
        return None
    number = int(text)
    if number > GREATEST_NUMBER:
        return None
    return number


def make_read(text):
    numbers = [number_read(part) for part in text.split(".")]
    if len(numbers) > MOST_MAKE_NUMBERS or None in numbers:
        return None
    return tuple(numbers)


def make_shown(make):
    return ".".join([str(number) for number in make])


def is_bound(text):
    return text == "-" or make_read(text) is not None


def bound_read(text, unbound):
    # None may be a bound's value, so whether the text is one is asked by is_bound.
    if text == "-":
        return unbound
    return make_read(text)


def bound_shown(bound):
    if bound is None or bound == ():
        return "-"
    return make_shown(bound)


def is_within(make, least, below):
    return make >= least and (below is None or make < below)


def is_place(number, things):
    # True and False are ints for Python, but no whole numbers here.
    return isinstance(number, int) and not isinstance(number, bool) and 0 <= number < len(things)


def keys_unlike(first, second):
    # No value is None, so a key that stands in one of both alone is unlike, too.
    return [key for key in sorted(set(first) | set(second)) if first.get(key) != second.get(key)]
