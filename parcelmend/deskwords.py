"""The words of the rows that a desk is told, read to values; a row that is none is refused with NoRow."""

from parcelmend.errors import NoRow
from parcelmend.words import MOST_LINES, bound_read, is_bound, is_line, is_name, is_path, number_read, rows_of

MOST_WISHES = 9
MOST_ROW_FIGURES = 6
# For each first word the sorts of the words behind it; wish is not here, as it may have more words or fewer.
SORTS = {
    "shelf": (), "edit": ("path",), "forget": ("path",), "choose": ("name", "choice"), "back": ("number",),
    "allow": ("allowance",), "up": (), "spoil": ("spot",), "lose": ("spot",), "look": (), "mend": (), "files": (),
    "show": ("spot",), "stand": (),
}
WITH_TEXT = ("shelf", "edit", "spoil")


def row_read(row):
    # Told is a list: the first word, and then the value of each thing that the row tells.
    if not isinstance(row, str):
        raise NoRow("what is no text is no row")
    parts = row.partition("\n")
    words = parts[0].split(" ")
    told = words[:1] + values_read(words)
    if (parts[1] == "\n") != (words[0] in WITH_TEXT):
        raise NoRow("a line feed is missing, or there is one too many")
    if words[0] == "shelf":
        # Whether it is a shelf's text is another question than whether the row is one.
        return told + [parts[2]]
    if words[0] in WITH_TEXT:
        return told + [lines_read(parts[2])]
    return told


def values_read(words):
    if words[0] == "wish":
        return [wishes_read(words[1:])]
    sorts = SORTS.get(words[0])
    if sorts is None:
        raise NoRow("no row begins so")
    if len(words) != len(sorts) + 1:
        raise NoRow("there are too many words or too few")
    return [value_read(sort, word) for sort, word in zip(sorts, words[1:])]


def value_read(sort, word):
    if word == "-" and sort in ("choice", "allowance"):
        return None
    if sort in ("number", "allowance"):
        return row_number_read(word)
    if not is_of_sort(sort, word):
        raise NoRow(f"no {sort}: {word!r}")
    return word


def is_of_sort(sort, word):
    if sort == "path":
        return is_path(word)
    if sort == "spot":
        return is_spot(word)
    return is_name(word)


def is_spot(word):
    # All that a tree may have: a path, what lies beside one, a common name.
    if word.startswith("="):
        return is_name(word[1:])
    if word.endswith(".own"):
        return is_path(word[:-4])
    return is_path(word)


def row_number_read(word):
    number = number_read(word)
    if number is None or len(word) > MOST_ROW_FIGURES:
        raise NoRow(f"no number: {word!r}")
    return number


def wishes_read(words):
    if not 0 < len(words) <= MOST_WISHES:
        raise NoRow("there are too many wishes or none")
    return [wish_read(word) for word in words]


def wish_read(word):
    parts = word.split(":")
    if parts[0] == "out" and len(parts) == 2 and is_name(parts[1]):
        return ("out", parts[1])
    if parts[0] == "in" and len(parts) == 4 and is_name(parts[1]) and is_bound(parts[2]) and is_bound(parts[3]):
        return ("in", parts[1], bound_read(parts[2], ()), bound_read(parts[3], None))
    raise NoRow(f"no wish: {word!r}")


def lines_read(text):
    rows = rows_of(text)
    if len(rows) > MOST_LINES:
        raise NoRow("there are too many lines")
    return [line_read(row) for row in rows]


def line_read(row):
    if not row.startswith("|") or not is_line(row[1:]):
        raise NoRow(f"no line: {row!r}")
    return row[1:]


def lines_shown(lines):
    return "\n".join([f"|{line}" for line in lines])
