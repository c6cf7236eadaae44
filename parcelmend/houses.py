"""A house: a shelf and a disk, and what a person does there."""

from parcelmend.books import come_up, do_deed, formers_of, is_up, stand_on, turn_to
from parcelmend.errors import NoFormer, NoName, NoPath, NotUp
from parcelmend.sets import parcels_of
from parcelmend.stands import Stand, brought_by, tree_of
from parcelmend.wishes import Best, best_set
from parcelmend.words import is_name, is_path, is_place, keys_unlike


class House:
    def __init__(self, shelf, disk):
        self.shelf = shelf
        self.disk = disk

    def up(self):
        return is_up(self.disk)

    def stand(self):
        return stand_on(self.disk)

    def formers(self):
        return formers_of(self.disk)

    def come_up(self):
        return come_up(self.shelf, self.disk)

    def stand_kept(self):
        # Asked first by all that a house does only where it is up, so that NotUp goes ahead of any other refusal.
        if not self.up():
            raise NotUp("a deed has fallen, and the house has not come up since")
        return self.stand()

    def go_to(self, chosen, choices, own):
        do_deed(self.shelf, self.disk, Stand(chosen, choices, own))

    def wish(self, wishes):
        stand = self.stand_kept()
        outcome = best_set(self.shelf, stand.chosen, wishes)
        if isinstance(outcome, Best):
            self.go_to(outcome.chosen, stand.choices, stand.own)
        return outcome

    def edit(self, path, lines):
        stand = self.stand_kept()
        ask_path(path)
        brought = brought_by(parcels_of(self.shelf, stand.chosen)).get(path, [])
        change = (brought, lines) if lines != brought else None
        self.go_to(stand.chosen, stand.choices, with_entry(stand.own, path, change))

    def forget(self, path):
        stand = self.stand_kept()
        ask_path(path)
        self.go_to(stand.chosen, stand.choices, with_entry(stand.own, path, None))

    def choose(self, common, name):
        stand = self.stand_kept()
        ask_name(common)
        if name is not None:
            ask_name(name)
        self.go_to(stand.chosen, with_entry(stand.choices, common, name), stand.own)

    def back(self, number):
        self.stand_kept()
        formers = self.formers()
        if not is_place(number, formers):
            raise NoFormer(f"no former stand {number!r}")
        do_deed(self.shelf, self.disk, formers[number])

    def look(self):
        tree = tree_of(self.shelf, self.stand_kept())
        files = self.disk.files_now()
        return [(path, word_for(path, files, tree)) for path in keys_unlike(files, tree)]

    def mend(self):
        told = self.look()
        turn_to(self.disk, tree_of(self.shelf, self.stand()))
        return told


def ask_path(path):
    if not isinstance(path, str) or not is_path(path):
        raise NoPath(f"no path: {path!r}")


def ask_name(name):
    if not isinstance(name, str) or not is_name(name):
        raise NoName(f"no name: {name!r}")


def with_entry(entries, key, entry):
    # None is no entry: what was there is left out.
    changed = dict(entries)
    if entry is not None:
        changed[key] = entry
    elif key in changed:
        changed.pop(key)
    return changed


def word_for(path, files, tree):
    if path not in files:
        return "gone"
    return "unlike" if path in tree else "strange"
