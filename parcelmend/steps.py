"""The steps from one set to another, by groups of names that change together."""

from parcelmend.sets import is_sound
from parcelmend.words import keys_unlike


def groups_to(shelf, now, goal):
    groups = []
    reached = now
    left = keys_unlike(reached, goal)
    while len(left) > 0:
        group = first_group(shelf, reached, goal, left)
        groups.append(group)
        reached = set_behind(reached, goal, group)
        left = keys_unlike(reached, goal)
    return groups


def set_behind(now, goal, group):
    behind = dict(now)
    for name in group:
        if name in goal:
            behind[name] = goal[name]
        elif name in behind:
            behind.pop(name)
    return behind


def first_group(shelf, now, goal, names):
    groups = [[]]
    for many in range(1, len(names)):
        groups = with_one_more(groups, names)
        for group in groups:
            if is_sound(shelf, set_behind(now, goal, group)):
                return group
    # All of them lead to goal, which is sound.
    return names


def with_one_more(groups, names):
    # Only a name behind the last one is added, so that no group comes twice and all stay in the order of lists.
    larger = []
    for group in groups:
        larger.extend([group + [name] for name in names if len(group) == 0 or name > group[-1]])
    return larger
