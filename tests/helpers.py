"""What several test files need: parcels made shortly, and parcels, shelves and stands told as plain values."""

from parcelmend.parcels import Parcel


def parcel_of(name, make, rank=0, files=(), needs=(), shuts=(), offers=()):
    return Parcel(name, make, rank, list(files), list(needs), list(shuts), list(offers))


def fields_of(parcel):
    return (parcel.name, parcel.make, parcel.rank, parcel.files, parcel.needs, parcel.shuts, parcel.offers)


def contents_of(shelf):
    told = []
    for name in shelf.names():
        for make in shelf.makes_of(name):
            told.append(fields_of(shelf.parcel(name, make)))
    return told


def parts_of(stand):
    return (stand.chosen, stand.choices, stand.own)
