"""Stands written as texts, and read from them."""

from parcelmend.errors import NoStand
from parcelmend.stands import Stand
from parcelmend.words import MOST_LINES, is_line, is_name, is_path, make_read, make_shown, rows_of


def stand_shown(stand):
    rows = [" ".join(["in", name, make_shown(stand.chosen[name])]) for name in sorted(stand.chosen)]
    rows.extend([" ".join(["choose", common, stand.choices[common]]) for common in sorted(stand.choices)])
    for path in sorted(stand.own):
        rows.extend(change_rows(path, stand.own[path]))
    return "\n".join(rows)


def change_rows(path, change):
    rows = [f"own {path}"]
    rows.extend([f"<{line}" for line in change[0]])
    rows.extend([f">{line}" for line in change[1]])
    return rows


def read_stand(text):
    chosen = {}
    choices = {}
    changes = []
    for number, row in enumerate(rows_of(text)):
        if not take_row(chosen, choices, changes, row):
            raise NoStand(f"row {number} can not stand there")
    stand = Stand(chosen, choices, own_of(changes))
    # Rows that come twice or out of order are each taken by themselves; only the stand as a whole shows them.
    if stand_shown(stand) != text:
        raise NoStand("rows are told twice or not in their order")
    return stand


def own_of(changes):
    own = {}
    for path, base, mine in changes:
        own[path] = (base, mine)
    return own


# Each take_ function tells whether the row is good by itself, and only then adds what it says to the parts of the
# stand. The last of the changes is the one that still grows.


def take_row(chosen, choices, changes, row):
    # A line may hold blanks, so its row is not parted into words.
    if row.startswith("<"):
        return len(changes) > 0 and take_line(changes[-1][1], row[1:])
    if row.startswith(">"):
        return len(changes) > 0 and take_line(changes[-1][2], row[1:])
    words = row.split(" ")
    if words[0] == "in":
        return take_parcel(chosen, words)
    if words[0] == "choose":
        return take_choice(choices, words)
    return words[0] == "own" and take_change(changes, words)


def take_parcel(chosen, words):
    if len(words) != 3 or not is_name(words[1]):
        return False
    make = make_read(words[2])
    if make is None:
        return False
    chosen[words[1]] = make
    return True


def take_choice(choices, words):
    if len(words) != 3 or not is_name(words[1]) or not is_name(words[2]):
        return False
    choices[words[1]] = words[2]
    return True


def take_change(changes, words):
    if len(words) != 2 or not is_path(words[1]):
        return False
    changes.append((words[1], [], []))
    return True


def take_line(lines, line):
    if len(lines) == MOST_LINES or not is_line(line):
        return False
    lines.append(line)
    return True
