"""Parcels, the claims that they meet, and shelves of them."""

from parcelmend.errors import NoParcel
from parcelmend.words import is_within


def does_meet(claim, parcel):
    name = claim[0]
    least = claim[1]
    below = claim[2]
    if parcel.name == name and is_within(parcel.make, least, below):
        return True
    # An offer has no make of its own, so it meets only a claim that asks for none.
    return name in parcel.offers and least == () and below is None


class Parcel:
    def __init__(self, name, make, rank, files, needs, shuts, offers):
        self.name = name
        self.make = make
        self.rank = rank
        self.files = [(path, list(lines)) for path, lines in files]
        self.needs = list(needs)
        self.shuts = list(shuts)
        self.offers = list(offers)


class Shelf:
    def __init__(self, parcels):
        self.shelved = {}
        for parcel in parcels:
            self.shelved[(parcel.name, parcel.make)] = parcel

    def names(self):
        return sorted(set([name for name, make in self.shelved]))

    def makes_of(self, name):
        return sorted([key[1] for key in self.shelved if key[0] == name])

    def parcel(self, name, make):
        if (name, make) not in self.shelved:
            raise NoParcel(f"no parcel {name!r} {make!r}")
        return self.shelved[(name, make)]
