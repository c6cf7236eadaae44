"""Shelves written as texts, and read from them."""

from parcelmend.errors import NoShelf
from parcelmend.parcels import Parcel, Shelf
from parcelmend.words import MOST_LINES, bound_read, bound_shown, is_bound, is_line, is_name, is_path
from parcelmend.words import make_read, make_shown, number_read, rows_of

MOST_NAMES = 8
MOST_MAKES = 4
MOST_FILES = 8
MOST_CLAIMS = 8
MOST_OFFERS = 4


def shelf_shown(shelf):
    rows = []
    for name in shelf.names():
        for make in shelf.makes_of(name):
            rows.extend(parcel_rows(shelf.parcel(name, make)))
    return "\n".join(rows)


def parcel_rows(parcel):
    rows = [" ".join(["parcel", parcel.name, make_shown(parcel.make), str(parcel.rank)])]
    for path, lines in parcel.files:
        rows.append(f"file {path}")
        rows.extend([f"|{line}" for line in lines])
    rows.extend([claim_row("need", claim) for claim in parcel.needs])
    rows.extend([claim_row("shut", claim) for claim in parcel.shuts])
    rows.extend([f"offer {name}" for name in parcel.offers])
    return rows


def claim_row(sort, claim):
    return " ".join([sort, claim[0], bound_shown(claim[1]), bound_shown(claim[2])])


def read_shelf(text):
    parcels = []
    for number, row in enumerate(rows_of(text)):
        if not take_row(parcels, row):
            raise NoShelf(number)
    return Shelf(parcels)


# Each take_ function tells whether the row is good behind those taken so far, and only then adds what it says
# to the parcels. The last parcel is the one that still grows; what it has already tells which rows may follow.


def take_row(parcels, row):
    words = row.split(" ")
    if words[0] == "parcel":
        return take_parcel(parcels, words)
    if len(parcels) == 0:
        return False
    # A line may hold blanks, so its row is not parted into words.
    if row.startswith("|"):
        return take_line(parcels[-1], row[1:])
    return take_part(parcels[-1], words)


def take_parcel(parcels, words):
    if len(words) != 4 or not is_name(words[1]):
        return False
    make = make_read(words[2])
    rank = number_read(words[3])
    if make is None or rank is None or not has_room(parcels, words[1], make):
        return False
    parcels.append(Parcel(words[1], make, rank, [], [], [], []))
    return True


def has_room(parcels, name, make):
    makes = [parcel.make for parcel in parcels if parcel.name == name]
    if len(makes) > 0:
        return make not in makes and len(makes) < MOST_MAKES
    return len(set([parcel.name for parcel in parcels])) < MOST_NAMES


def take_part(parcel, words):
    if words[0] == "file":
        return take_file(parcel, words)
    if words[0] == "need":
        return len(parcel.shuts) == 0 and len(parcel.offers) == 0 and take_claim(parcel.needs, words)
    if words[0] == "shut":
        return len(parcel.offers) == 0 and take_claim(parcel.shuts, words)
    if words[0] == "offer":
        return take_offer(parcel.offers, words)
    return False


def is_at_files(parcel):
    return len(parcel.needs) == 0 and len(parcel.shuts) == 0 and len(parcel.offers) == 0


def take_file(parcel, words):
    if not is_at_files(parcel) or len(words) != 2 or not is_path(words[1]):
        return False
    if len(parcel.files) == MOST_FILES or words[1] in [path for path, lines in parcel.files]:
        return False
    parcel.files.append((words[1], []))
    return True


def take_line(parcel, line):
    if not is_at_files(parcel) or len(parcel.files) == 0 or not is_line(line):
        return False
    lines = parcel.files[-1][1]
    if len(lines) == MOST_LINES:
        return False
    lines.append(line)
    return True


def take_claim(claims, words):
    if len(claims) == MOST_CLAIMS or len(words) != 4 or not is_name(words[1]):
        return False
    if not is_bound(words[2]) or not is_bound(words[3]):
        return False
    claims.append((words[1], bound_read(words[2], ()), bound_read(words[3], None)))
    return True


def take_offer(offers, words):
    if len(words) != 2 or not is_name(words[1]):
        return False
    if len(offers) == MOST_OFFERS or words[1] in offers:
        return False
    offers.append(words[1])
    return True
