"""Papers: trees of cases that show that no sound set of a shelf meets some wishes.

What is decided on the way down is a dict from names to makes, or to None for absent. A name that is not in it is not
decided, unless the shelf has no parcel of it.
"""

from parcelmend.parcels import does_meet
from parcelmend.sets import paths_of
from parcelmend.words import is_place, is_within


class Paper:
    def holds(self, shelf, wishes):
        return self.holds_where(shelf, wishes, {})

    def holds_where(self, shelf, wishes, decided):
        return False


class Leaf(Paper):
    def __init__(self, reason):
        self.reason = reason

    def holds_where(self, shelf, wishes, decided):
        return is_broken(shelf, wishes, decided, self.reason)


class Split(Paper):
    def __init__(self, name, papers):
        self.name = name
        self.papers = list(papers)

    def holds_where(self, shelf, wishes, decided):
        cases = cases_of(shelf, self.name)
        if len(self.papers) != len(cases):
            return False
        for case, paper in zip(cases, self.papers):
            if not paper.holds_where(shelf, wishes, with_case(decided, self.name, case)):
                return False
        return True


def cases_of(shelf, name):
    return [None] + shelf.makes_of(name)


def with_case(decided, name, case):
    further = dict(decided)
    further[name] = case
    return further


def is_decided(shelf, decided, name):
    return name in decided or len(shelf.makes_of(name)) == 0


def is_done_by(wish, make):
    # The make is that of the wish's name, or None where the name is absent.
    if wish[0] == "out":
        return make is None
    return make is not None and is_within(make, wish[2], wish[3])


def is_broken(shelf, wishes, decided, reason):
    # Papers come from anybody, so a reason may have any parts, and each is looked at before it is used.
    if not isinstance(reason, tuple) or len(reason) == 0:
        return False
    if reason[0] == "wish":
        return len(reason) == 2 and is_wish_broken(shelf, wishes, decided, reason[1])
    if reason[0] == "need":
        return len(reason) == 3 and is_need_broken(shelf, decided, reason[1], reason[2])
    if reason[0] == "shut":
        return len(reason) == 4 and is_shut_broken(shelf, decided, reason[1], reason[2], reason[3])
    if reason[0] == "clash":
        return len(reason) == 4 and is_clash(shelf, decided, reason[1], reason[2], reason[3])
    return False


def parcel_decided(shelf, decided, name):
    if not isinstance(name, str) or decided.get(name) is None:
        return None
    return shelf.parcel(name, decided[name])


def is_wish_broken(shelf, wishes, decided, number):
    if not is_place(number, wishes):
        return False
    name = wishes[number][1]
    return is_decided(shelf, decided, name) and not is_done_by(wishes[number], decided.get(name))


def is_need_broken(shelf, decided, name, number):
    parcel = parcel_decided(shelf, decided, name)
    if parcel is None or not is_place(number, parcel.needs):
        return False
    return not any([may_meet(shelf, decided, parcel.needs[number], other) for other in shelf.names()])


def may_meet(shelf, decided, claim, name):
    makes = [decided[name]] if name in decided else shelf.makes_of(name)
    return any([make is not None and does_meet(claim, shelf.parcel(name, make)) for make in makes])


def is_shut_broken(shelf, decided, name, number, other):
    parcel = parcel_decided(shelf, decided, name)
    behind = parcel_decided(shelf, decided, other)
    if parcel is None or behind is None or other == name or not is_place(number, parcel.shuts):
        return False
    return does_meet(parcel.shuts[number], behind)


def is_clash(shelf, decided, name, other, path):
    parcel = parcel_decided(shelf, decided, name)
    behind = parcel_decided(shelf, decided, other)
    if parcel is None or behind is None or not name < other:
        return False
    return path in paths_of(parcel) and path in paths_of(behind)
