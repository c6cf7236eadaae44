"""What several test files need.

Parcels and shelves made shortly; parcels, shelves, stands and papers told as plain values; every set of a shelf; what
points 12, 13, 15, 18 to 20, 22 to 25, 27 and 28 ask, by their words; disks that keep in mind what was written; shelves
and wishes drawn by chance, the same ones at each run.
"""

import copy
import itertools
import random
import unittest

from parcelmend.books import stand_on
from parcelmend.disks import Disk
from parcelmend.errors import Fallen, MendError
from parcelmend.houses import House
from parcelmend.papers import Leaf, Split
from parcelmend.parcels import Parcel, Shelf, does_meet

# Signs that stand in no name, and texts that are no names or no paths, all without a line feed.
STRANGE_SIGNS = (
    "A", "Z", "0", "9", "_", "-", ".", "`", "{", "=", "|", "<", ">", "\t", "\r", "\u00e9", "\u0430", "\u00df", "\x00",
)
NO_NAMES = (
    ("", "abcdefghi", "a" * 100, "a/b", "a b") + STRANGE_SIGNS + tuple("ab" + sign for sign in STRANGE_SIGNS)
    + tuple(sign + "ab" for sign in STRANGE_SIGNS) + tuple("a" + sign + "b" for sign in STRANGE_SIGNS)
)
NO_PATHS = tuple(name for name in NO_NAMES if name != "a/b") + (
    "/", "/a", "a/", "a//b", "//", "a/b/c/d/e", "a/b/c/d/", "/a/b/c/d", "abcdefghi/a", "a/abcdefghi", "a/B", "a/b.own",
    "a.own", "=a", "a\\b", "a/b/c/d e",
)


def parcel_of(name, make, rank=0, files=(), needs=(), shuts=(), offers=()):
    return Parcel(name, make, rank, list(files), list(needs), list(shuts), list(offers))


def fields_of(parcel):
    return (parcel.name, parcel.make, parcel.rank, parcel.files, parcel.needs, parcel.shuts, parcel.offers)


def contents_of(shelf):
    told = []
    for name in shelf.names():
        for make in shelf.makes_of(name):
            told.append(fields_of(shelf.parcel(name, make)))
    return told


def parts_of(stand):
    return (stand.chosen, stand.choices, stand.own)


def paper_told(paper):
    if isinstance(paper, Leaf):
        return ("leaf", paper.reason)
    if isinstance(paper, Split):
        return ("split", paper.name, [paper_told(below) for below in paper.papers])
    return ("paper",)


def every_set(shelf):
    told = []
    for makes in itertools.product(*[[None] + shelf.makes_of(name) for name in shelf.names()]):
        told.append({name: make for name, make in zip(shelf.names(), makes) if make is not None})
    return told


def faults_by_the_words(parcels):
    told = set()
    for parcel in parcels:
        for number, claim in enumerate(parcel.needs):
            if not any(does_meet(claim, other) for other in parcels):
                told.add(("need", parcel.name, number))
        for other in parcels:
            for number, claim in enumerate(parcel.shuts):
                if other is not parcel and does_meet(claim, other):
                    told.add(("shut", parcel.name, number, other.name))
            for path in dict(parcel.files):
                if parcel.name < other.name and path in dict(other.files):
                    told.add(("clash", parcel.name, other.name, path))
    return sorted(told)


def is_sound_by_the_words(shelf, chosen):
    return faults_by_the_words([shelf.parcel(name, chosen[name]) for name in chosen]) == []


def are_met_by_the_words(chosen, wishes):
    for wish in wishes:
        if wish[0] == "out":
            if wish[1] in chosen:
                return False
        else:
            name, least, below = wish[1:]
            if name not in chosen or chosen[name] < least:
                return False
            if below is not None and not chosen[name] < below:
                return False
    return True


def holds_by_the_words(paper, shelf, wishes, decided=None):
    if decided is None:
        decided = {}
    if isinstance(paper, Leaf):
        return paper.reason in reasons_by_the_words(shelf, wishes, decided)
    if not isinstance(paper, Split):
        return False
    cases = ["absent"] + shelf.makes_of(paper.name)
    if len(paper.papers) != len(cases):
        return False
    return all(
        holds_by_the_words(below, shelf, wishes, {**decided, paper.name: case})
        for case, below in zip(cases, paper.papers)
    )


def reasons_by_the_words(shelf, wishes, decided):
    """All that is surely broken by what is decided: a make, or "absent", for some names."""
    told = []
    for number, wish in enumerate(wishes):
        case = decided.get(wish[1]) if wish[1] in shelf.names() else "absent"
        if case is not None:
            chosen = {} if case == "absent" else {wish[1]: case}
            if not are_met_by_the_words(chosen, [wish]):
                told.append(("wish", number))
    shelved = [shelf.parcel(name, make) for name in shelf.names() for make in shelf.makes_of(name)]
    parcels = [parcel for parcel in shelved if decided.get(parcel.name) == parcel.make]
    for fault in faults_by_the_words(parcels):
        if fault[0] != "need":
            told.append(fault)
    for parcel in parcels:
        for number, claim in enumerate(parcel.needs):
            meeting = [other for other in shelved if does_meet(claim, other)]
            if all(other.name in decided and decided[other.name] != other.make for other in meeting):
                told.append(("need", parcel.name, number))
    return told


def block_by_the_words(base, other):
    shorter = min(len(base), len(other))
    start = max(many for many in range(shorter + 1) if base[:many] == other[:many])
    left_base = base[start:]
    left_other = other[start:]
    left = min(len(left_base), len(left_other))
    behind = max(
        many for many in range(left + 1)
        if left_base[len(left_base) - many:] == left_other[len(left_other) - many:]
    )
    return (start, len(base) - behind, left_other[:len(left_other) - behind])


def together_by_the_words(base, own, new):
    if own == base:
        return (new, None)
    if new == base or own == new:
        return (own, None)
    blocks = [block_by_the_words(base, own), block_by_the_words(base, new)]
    (start, stop, _), (other_start, other_stop, _) = blocks
    if len({start, stop, other_start, other_stop}) == 1 or (stop > other_start and other_stop > start):
        return (new, own)
    lines = []
    for place in range(len(base) + 1):
        # What takes no line away comes ahead of what takes away the line that stands there.
        for block in sorted(blocks, key=lambda block: block[1]):
            if block[0] == place:
                lines.extend(block[2])
        if place < len(base) and not any(block[0] <= place < block[1] for block in blocks):
            lines.append(base[place])
    return (lines, None)


def stands_within(part, lines):
    return any(lines[place:place + len(part)] == part for place in range(len(lines) - len(part) + 1))


def names_to_change(now, goal):
    return sorted(name for name in set(now) | set(goal) if now.get(name) != goal.get(name))


def behind_by_the_words(now, goal, group):
    behind = {name: make for name, make in now.items() if name not in group}
    behind.update({name: make for name, make in goal.items() if name in group})
    return behind


def groups_by_the_words(shelf, now, goal):
    groups = []
    while names_to_change(now, goal):
        left = names_to_change(now, goal)
        every = [list(group) for many in range(1, len(left) + 1) for group in itertools.combinations(left, many)]
        sound = [group for group in every if is_sound_by_the_words(shelf, behind_by_the_words(now, goal, group))]
        group = min(sound, key=lambda group: (len(group), group))
        groups.append(group)
        now = behind_by_the_words(now, goal, group)
    return groups


def best_by_the_words(shelf, now, wishes):
    doing = [
        chosen for chosen in every_set(shelf)
        if is_sound_by_the_words(shelf, chosen) and are_met_by_the_words(chosen, wishes)
    ]
    if not doing:
        return None
    fewest = min(len(names_to_change(now, chosen)) for chosen in doing)
    nearest = [chosen for chosen in doing if len(names_to_change(now, chosen)) == fewest]
    return max(nearest, key=lambda chosen: [chosen.get(name, ()) for name in shelf.names()])


# A stand is told here by its parts, a write by a tuple of its name and its arguments.


def brought_by_the_words(shelf, chosen):
    return {path: lines for name, make in chosen.items() for path, lines in shelf.parcel(name, make).files}


def tree_by_the_words(shelf, parts):
    chosen, choices, own = parts
    brought = brought_by_the_words(shelf, chosen)
    tree = dict(brought)
    for path, (base, mine) in own.items():
        lines, beside = together_by_the_words(base, mine, brought[path]) if path in brought else (mine, None)
        tree[path] = lines
        if beside is not None:
            tree[path + ".own"] = beside
    parcels = [shelf.parcel(name, make) for name, make in chosen.items()]
    for common in {common for parcel in parcels for common in parcel.offers}:
        ranks = {parcel.name: parcel.rank for parcel in parcels if common in parcel.offers}
        first = sorted(ranks, key=lambda name: (-ranks[name], name))[0]
        tree["=" + common] = [choices[common] if choices.get(common) in ranks else first]
    return tree


def text_by_the_words(parts):
    chosen, choices, own = parts
    rows = []
    for name in sorted(chosen):
        rows.append("in " + name + " " + ".".join(str(number) for number in chosen[name]))
    for common in sorted(choices):
        rows.append("choose " + common + " " + choices[common])
    for path in sorted(own):
        rows.append("own " + path)
        rows.extend("<" + line for line in own[path][0])
        rows.extend(">" + line for line in own[path][1])
    return "\n".join(rows)


def turning_by_the_words(files, tree):
    writes = []
    for path in sorted(set(files) | set(tree)):
        if path not in tree:
            writes.append(("erase", path))
        elif path not in files or files[path] != tree[path]:
            writes.append(("put", path, tree[path]))
    return writes


def deed_by_the_words(shelf, files, now, goal):
    if text_by_the_words(now) == text_by_the_words(goal):
        return []
    writes = [("note", "begin", text_by_the_words(goal))]
    reached = now[0]
    for group in groups_by_the_words(shelf, now[0], goal[0]):
        reached = behind_by_the_words(reached, goal[0], group)
        tree = tree_by_the_words(shelf, (reached, goal[1], goal[2]))
        writes.extend(turning_by_the_words(behind_writes(files, [], writes)[0], tree))
        writes.append(("note", "step", " ".join(group)))
    tree = tree_by_the_words(shelf, goal)
    writes.extend(turning_by_the_words(behind_writes(files, [], writes)[0], tree))
    return writes + [("note", "end", "")]


def behind_writes(files, book, writes):
    """What files and book are behind these writes."""
    files = dict(files)
    book = list(book)
    for write in writes:
        if write[0] == "put":
            files[write[1]] = write[2]
        elif write[0] == "erase":
            files.pop(write[1], None)
        else:
            book.append(write[1:])
    return (files, book)


class WatchedDisk(Disk):
    """A disk that keeps in mind what was written on it since it was made."""

    def __init__(self, files=None, book=()):
        super().__init__()
        self.written = []
        for path, lines in (files or {}).items():
            self.put(path, lines)
        for kind, text in book:
            self.note(kind, text)
        self.written = []

    def put(self, path, lines):
        super().put(path, lines)
        self.written.append(("put", path, list(lines)))

    def erase(self, path):
        super().erase(path)
        self.written.append(("erase", path))

    def note(self, kind, text):
        super().note(kind, text)
        self.written.append(("note", kind, text))


class Chance:
    """Shelves and wishes of all sorts, the same ones at each run."""

    makes = [(1,), (1, 0), (1, 2), (2,)]

    def __init__(self, number):
        self.rolls = random.Random(number)

    def one(self, things):
        return things[self.rolls.randrange(len(things))]

    def some(self, things, share):
        """About one of so many."""
        return [thing for thing in things if self.rolls.randrange(share) == 0]

    def claim(self, names):
        least = self.one([(), (), (), (1,), (1, 1), (2,)])
        return (self.one(names), least, self.one([None, None, None, (1, 2), (2,), (3,)]))

    def parcel(self, name, make, names):
        files = [(path, [path + name]) for path in self.some(["f", "g", "h"], 4)]
        needs = [self.claim(names + ["m", "z"]) for turn in range(self.one([0, 0, 0, 1, 1, 2]))]
        shuts = [self.claim(names + ["m"]) for turn in range(self.one([0, 0, 0, 1, 2]))]
        return Parcel(name, make, 0, files, needs, shuts, self.some(["m", "a", "k"], 4))

    def shelf(self, names):
        parcels = []
        for name in names:
            for make in self.some(self.makes, 2):
                parcels.append(self.parcel(name, make, names))
        self.rolls.shuffle(parcels)
        return Shelf(parcels)

    def wish(self, names):
        if self.rolls.randrange(3) == 0:
            return ("out", self.one(names))
        return ("in",) + self.claim(names)

    def wishes(self, names, most):
        return [self.wish(names) for turn in range(self.rolls.randrange(most + 1))]


class DeedChance(Chance):
    """Shelves whose parcels bring lines that are much alike, with ranks and offers; and stands over them."""

    def lines(self):
        told = []
        for line in self.one([["p", "q", "r", "s"], ["p", "q"], []]):
            told.extend(self.one([[line]] * 5 + [[], ["x"], ["y"], [line, "x"], ["y", line]]))
        return told

    def parcel(self, name, make, names):
        files = [(path, self.lines()) for path in self.some(["f", "g", "d/" + name, "e/" + name], 3)]
        needs = [self.claim(names + ["m"]) for turn in range(self.one([0, 0, 0, 1]))]
        # Two names that follow one another often go by the same first number, so that they change together.
        partner = names[names.index(name) ^ 1]
        needs.extend(self.some([(partner, make[:1], (make[0] + 1,))], 2))
        shuts = [self.claim(names) for turn in range(self.one([0, 0, 0, 1]))]
        return Parcel(name, make, self.one([0, 1, 2]), files, needs, shuts, self.some(["m", "k"], 2))

    def sound_sets(self, shelf):
        return [chosen for chosen in every_set(shelf) if is_sound_by_the_words(shelf, chosen)]

    def parts(self, shelf, names):
        """The parts of a stand."""
        choices = {common: self.one(names + ["zz"]) for common in self.some(["m", "k", "z"], 2)}
        paths = ["f", "g", "h", "d/a", "e/b"]
        own = {path: (self.lines(), self.lines()) for path in self.some(paths, 3)}
        return (self.one(self.sound_sets(shelf)), choices, own)


class HouseTest(unittest.TestCase):
    """What a house does with a disk: a deed, write by write, or a refusal that leaves all as it was."""

    def check_deed(self, shelf, disk, do, goal):
        """With each number of writes on other disks, at last on this one; told is what it answers."""
        shelved = copy.deepcopy(contents_of(shelf))
        files = disk.files_now()
        book = disk.book_now()
        expected = deed_by_the_words(shelf, files, parts_of(stand_on(disk)), goal)
        for many in range(len(expected) + 1):
            other = WatchedDisk(files, book)
            other.allow(many)
            if many < len(expected):
                self.refuse_with(Fallen, lambda: do(House(shelf, other)))
            else:
                do(House(shelf, other))
            self.assertEqual(other.written, expected[:many])
        told = do(House(shelf, disk))
        self.assertEqual((disk.files_now(), disk.book_now()), behind_writes(files, book, expected))
        self.assertEqual(parts_of(House(shelf, disk).stand()), goal)
        self.assertEqual(contents_of(shelf), shelved)
        return told

    def check_refused(self, shelf, disk, do, refusal):
        """Whether writes are left or not."""
        for many in (0, 1, None):
            other = WatchedDisk(disk.files_now(), disk.book_now())
            other.allow(many)
            self.refuse_with(refusal, lambda: do(House(shelf, other)))
            self.assertEqual(other.written, [])
            self.assertEqual((other.files_now(), other.book_now()), (disk.files_now(), disk.book_now()))

    def refuse_with(self, refusal, do):
        with self.assertRaises(MendError) as caught:
            do()
        self.assertIs(type(caught.exception), refusal)
