"""What several test files need.

Parcels and shelves made shortly; parcels, shelves, stands and papers told as plain values; every set of a shelf, and
what points 12 and 20 ask of one, and points 23 and 24 of a paper, by their words.
"""

import itertools
import random

from parcelmend.papers import Leaf, Split
from parcelmend.parcels import Parcel, Shelf, does_meet


def parcel_of(name, make, rank=0, files=(), needs=(), shuts=(), offers=()):
    return Parcel(name, make, rank, list(files), list(needs), list(shuts), list(offers))


def fields_of(parcel):
    return (parcel.name, parcel.make, parcel.rank, parcel.files, parcel.needs, parcel.shuts, parcel.offers)


def contents_of(shelf):
    told = []
    for name in shelf.names():
        for make in shelf.makes_of(name):
            told.append(fields_of(shelf.parcel(name, make)))
    return told


def parts_of(stand):
    return (stand.chosen, stand.choices, stand.own)


def paper_told(paper):
    if isinstance(paper, Leaf):
        return ("leaf", paper.reason)
    if isinstance(paper, Split):
        return ("split", paper.name, [paper_told(below) for below in paper.papers])
    return ("paper",)


def every_set(shelf):
    told = []
    for makes in itertools.product(*[[None] + shelf.makes_of(name) for name in shelf.names()]):
        told.append({name: make for name, make in zip(shelf.names(), makes) if make is not None})
    return told


def faults_by_the_words(parcels):
    told = set()
    for parcel in parcels:
        for number, claim in enumerate(parcel.needs):
            if not any(does_meet(claim, other) for other in parcels):
                told.add(("need", parcel.name, number))
        for other in parcels:
            for number, claim in enumerate(parcel.shuts):
                if other is not parcel and does_meet(claim, other):
                    told.add(("shut", parcel.name, number, other.name))
            for path in dict(parcel.files):
                if parcel.name < other.name and path in dict(other.files):
                    told.add(("clash", parcel.name, other.name, path))
    return sorted(told)


def is_sound_by_the_words(shelf, chosen):
    return faults_by_the_words([shelf.parcel(name, chosen[name]) for name in chosen]) == []


def are_met_by_the_words(chosen, wishes):
    for wish in wishes:
        if wish[0] == "out":
            if wish[1] in chosen:
                return False
        else:
            name, least, below = wish[1:]
            if name not in chosen or chosen[name] < least:
                return False
            if below is not None and not chosen[name] < below:
                return False
    return True


def holds_by_the_words(paper, shelf, wishes, decided=None):
    if decided is None:
        decided = {}
    if isinstance(paper, Leaf):
        return paper.reason in reasons_by_the_words(shelf, wishes, decided)
    if not isinstance(paper, Split):
        return False
    cases = ["absent"] + shelf.makes_of(paper.name)
    if len(paper.papers) != len(cases):
        return False
    return all(
        holds_by_the_words(below, shelf, wishes, {**decided, paper.name: case})
        for case, below in zip(cases, paper.papers)
    )


def reasons_by_the_words(shelf, wishes, decided):
    """All that is surely broken by what is decided: a make, or "absent", for some names."""
    told = []
    for number, wish in enumerate(wishes):
        case = decided.get(wish[1]) if wish[1] in shelf.names() else "absent"
        if case is not None:
            chosen = {} if case == "absent" else {wish[1]: case}
            if not are_met_by_the_words(chosen, [wish]):
                told.append(("wish", number))
    shelved = [shelf.parcel(name, make) for name in shelf.names() for make in shelf.makes_of(name)]
    parcels = [parcel for parcel in shelved if decided.get(parcel.name) == parcel.make]
    for fault in faults_by_the_words(parcels):
        if fault[0] != "need":
            told.append(fault)
    for parcel in parcels:
        for number, claim in enumerate(parcel.needs):
            meeting = [other for other in shelved if does_meet(claim, other)]
            if all(other.name in decided and decided[other.name] != other.make for other in meeting):
                told.append(("need", parcel.name, number))
    return told


class Chance:
    """Shelves and wishes of all sorts, the same ones at each run."""

    makes = [(1,), (1, 0), (1, 2), (2,)]

    def __init__(self, number):
        self.rolls = random.Random(number)

    def one(self, things):
        return things[self.rolls.randrange(len(things))]

    def some(self, things, share):
        """About one of so many."""
        return [thing for thing in things if self.rolls.randrange(share) == 0]

    def claim(self, names):
        least = self.one([(), (), (), (1,), (1, 1), (2,)])
        return (self.one(names), least, self.one([None, None, None, (1, 2), (2,), (3,)]))

    def parcel(self, name, make, names):
        files = [(path, [path + name]) for path in self.some(["f", "g", "h"], 4)]
        needs = [self.claim(names + ["m", "z"]) for turn in range(self.one([0, 0, 0, 1, 1, 2]))]
        shuts = [self.claim(names + ["m"]) for turn in range(self.one([0, 0, 0, 1, 2]))]
        return Parcel(name, make, 0, files, needs, shuts, self.some(["m", "a", "k"], 4))

    def shelf(self, names):
        parcels = []
        for name in names:
            for make in self.some(self.makes, 2):
                parcels.append(self.parcel(name, make, names))
        self.rolls.shuffle(parcels)
        return Shelf(parcels)

    def wish(self, names):
        if self.rolls.randrange(3) == 0:
            return ("out", self.one(names))
        return ("in",) + self.claim(names)

    def wishes(self, names, most):
        return [self.wish(names) for turn in range(self.rolls.randrange(most + 1))]
