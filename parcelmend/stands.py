"""Stands, and the tree of files that each one asks for."""

from parcelmend.merges import put_together
from parcelmend.sets import parcels_of


class Stand:
    def __init__(self, chosen, choices, own):
        self.chosen = dict(chosen)
        self.choices = dict(choices)
        self.own = changes_copied(own)


def changes_copied(own):
    copied = {}
    for path, change in own.items():
        copied[path] = (list(change[0]), list(change[1]))
    return copied


def tree_of(shelf, stand):
    parcels = parcels_of(shelf, stand.chosen)
    brought = brought_by(parcels)
    tree = dict(brought)
    for path, change in stand.own.items():
        tree.update(files_of_change(path, change, brought))
    for common in commons_of(parcels):
        tree[f"={common}"] = [name_behind(common, parcels, stand.choices)]
    return tree


def brought_by(parcels):
    brought = {}
    for parcel in parcels:
        for path, lines in parcel.files:
            brought[path] = list(lines)
    return brought


def files_of_change(path, change, brought):
    mine = change[1]
    if path not in brought:
        return {path: list(mine)}
    together = put_together(change[0], mine, brought[path])
    files = {path: together[0]}
    if together[1] is not None:
        # No path has a point in it, so nobody else's file has this name.
        files[f"{path}.own"] = together[1]
    return files


def commons_of(parcels):
    commons = []
    for parcel in parcels:
        commons.extend(parcel.offers)
    return sorted(set(commons))


def name_behind(common, parcels, choices):
    offering = [parcel for parcel in parcels if common in parcel.offers]
    told = choices.get(common)
    if told in [parcel.name for parcel in offering]:
        return told
    return min(offering, key=lambda parcel: (-parcel.rank, parcel.name)).name
