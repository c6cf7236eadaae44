"""What is done on a disk by its book: deeds that go step by step, and coming up behind a fall.

A begin is noted with the goal's text ahead of all else, so the book alone tells which stand the files are to be of.
"""

from parcelmend.stands import Stand, tree_of
from parcelmend.standtexts import stand_noted, stand_shown
from parcelmend.steps import groups_to, set_behind
from parcelmend.words import keys_unlike


def turn_to(disk, tree):
    for path in keys_unlike(disk.files_now(), tree):
        if path in tree:
            disk.put(path, tree[path])
        else:
            disk.erase(path)


def is_up(disk):
    book = disk.book_now()
    return len(book) == 0 or book[-1] == ("end", "")


def texts_begun(disk):
    # The text without signs is the empty stand's, which is there ahead of any begin.
    return [""] + [text for kind, text in disk.book_now() if kind == "begin"]


def stand_on(disk):
    return stand_noted(texts_begun(disk)[-1])


def formers_of(disk):
    return [stand_noted(text) for text in texts_begun(disk)]


def come_up(shelf, disk):
    if is_up(disk):
        return False
    finish(disk, tree_of(shelf, stand_on(disk)))
    return True


def finish(disk, tree):
    turn_to(disk, tree)
    disk.note("end", "")


def do_deed(shelf, disk, goal):
    stand = stand_on(disk)
    text = stand_shown(goal)
    if stand_shown(stand) == text:
        return
    # All is worked out ahead of the first write, so that nothing but a fall leaves a deed half done.
    steps = steps_to(shelf, stand.chosen, goal)
    tree = tree_of(shelf, goal)
    disk.note("begin", text)
    for group, between in steps:
        turn_to(disk, between)
        disk.note("step", " ".join(group))
    finish(disk, tree)


def steps_to(shelf, now, goal):
    steps = []
    reached = now
    for group in groups_to(shelf, now, goal.chosen):
        reached = set_behind(reached, goal.chosen, group)
        steps.append((group, tree_of(shelf, Stand(reached, goal.choices, goal.own))))
    return steps
