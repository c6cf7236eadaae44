"""Stands written as texts, and read from them."""

from parcelmend.errors import NoStand
from parcelmend.stands import Stand
from parcelmend.words import MOST_LINES, is_line, is_name, is_path, make_read, make_shown, rows_of


def stand_shown(stand):
    rows = [" ".join(["in", name, make_shown(stand.chosen[name])]) for name in sorted(stand.chosen)]
    rows.extend([" ".join(["choose", common, stand.choices[common]]) for common in sorted(stand.choices)])
    for path in sorted(stand.own):
        rows.extend(change_rows(path, stand.own[path]))
    return "\n".join(rows)


def change_rows(path, change):
    rows = [f"own {path}"]
    rows.extend([f"<{line}" for line in change[0]])
    rows.extend([f">{line}" for line in change[1]])
    return rows


def read_stand(text):
    for number, row in enumerate(rows_of(text)):
        if not is_good(row):
            raise NoStand(f"row {number} is not as a stand's rows are")
    stand = stand_noted(text)
    if not all([len(lines) <= MOST_LINES for lines in lines_within(stand)]):
        raise NoStand("there are too many lines of one change")
    # Rows that come twice or out of order are each good by themselves; only the stand as a whole shows them.
    if stand_shown(stand) != text:
        raise NoStand("rows are told twice or not in their order")
    return stand


def is_good(row):
    # A line may hold blanks, so its row is not parted into words.
    if row.startswith("<") or row.startswith(">"):
        return is_line(row[1:])
    words = row.split(" ")
    if words[0] == "own":
        return len(words) == 2 and is_path(words[1])
    if len(words) != 3 or not is_name(words[1]):
        return False
    if words[0] == "in":
        return make_read(words[2]) is not None
    return words[0] == "choose" and is_name(words[2])


def lines_within(stand):
    return [change[0] for change in stand.own.values()] + [change[1] for change in stand.own.values()]


def stand_noted(text):
    # For a text that was written by stand_shown: no bound is asked for, as what a stand holds may lie beyond them.
    chosen = {}
    choices = {}
    own = {}
    # Lines ahead of any change come to none, and so are missed when the stand is shown.
    change = ([], [])
    for row in rows_of(text):
        words = row.split(" ")
        if row.startswith("<"):
            change[0].append(row[1:])
        elif row.startswith(">"):
            change[1].append(row[1:])
        elif words[0] == "in":
            chosen[words[1]] = make_noted(words[2])
        elif words[0] == "choose":
            choices[words[1]] = words[2]
        else:
            change = ([], [])
            own[words[1]] = change
    return Stand(chosen, choices, own)


def make_noted(text):
    return tuple([int(part) for part in text.split(".")])
