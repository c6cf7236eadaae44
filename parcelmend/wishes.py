"""Wishes for names in or out, and the best set that meets them."""

from parcelmend.errors import TooWide
from parcelmend.papers import Leaf, Split, cases_of, is_broken, is_done_by, with_case
from parcelmend.sets import faults_of, is_sound
from parcelmend.words import keys_unlike

GREATEST_WIDTH = 400


class Outcome:
    pass


class Best(Outcome):
    def __init__(self, chosen):
        self.chosen = dict(chosen)


class Unmet(Outcome):
    def __init__(self, paper):
        self.paper = paper


def are_met(chosen, wishes):
    return all([is_done_by(wish, chosen.get(wish[1])) for wish in wishes])


def width_of(shelf):
    width = 1
    for name in shelf.names():
        width = width * len(cases_of(shelf, name))
    return width


def best_set(shelf, now, wishes):
    width = width_of(shelf)
    if width > GREATEST_WIDTH:
        raise TooWide(f"the width is {width}")
    doing = [chosen for chosen in sets_of(shelf) if are_met(chosen, wishes) and is_sound(shelf, chosen)]
    if len(doing) == 0:
        return Unmet(paper_for(shelf, wishes, {}))
    return Best(max(doing, key=lambda chosen: (-len(keys_unlike(now, chosen)), makes_listed(shelf, chosen))))


def sets_of(shelf):
    ways = [{}]
    for name in shelf.names():
        further = []
        for decided in ways:
            further.extend([with_case(decided, name, case) for case in cases_of(shelf, name)])
        ways = further
    return [set_decided(decided) for decided in ways]


def set_decided(decided):
    chosen = {}
    for name, make in decided.items():
        if make is not None:
            chosen[name] = make
    return chosen


def makes_listed(shelf, chosen):
    return [chosen.get(name, ()) for name in shelf.names()]


def paper_for(shelf, wishes, decided):
    reason = reason_for(shelf, wishes, decided)
    if reason is not None:
        return Leaf(reason)
    # No sound set meets the wishes, so with all names decided there is a reason: here a name is left.
    name = [left for left in shelf.names() if left not in decided][0]
    return Split(name, [paper_for(shelf, wishes, with_case(decided, name, case)) for case in cases_of(shelf, name)])


def reason_for(shelf, wishes, decided):
    reasons = [("wish", number) for number in range(len(wishes))]
    # What is broken surely is a fault already of what is decided to be in; of the needs some may be met yet.
    reasons.extend(faults_of(shelf, set_decided(decided)))
    for reason in reasons:
        if is_broken(shelf, wishes, decided, reason):
            return reason
    return None
