"""Two changes of one list of lines, put together.

A block is a tuple (start, stop, lines): what one list puts in the place of another's lines from start up to stop.
"""


def block_of(base, other):
    start = alike_ahead(base, other)
    # The lines that are alike at the begin are left out first, so that no line counts for both ends.
    behind = alike_ahead(base[start:][::-1], other[start:][::-1])
    return (start, len(base) - behind, other[start:len(other) - behind])


def alike_ahead(lines, others):
    many = 0
    while many < len(lines) and many < len(others) and lines[many] == others[many]:
        many = many + 1
    return many


def is_ahead(block, other):
    return block[1] <= other[0]


def takes_none(block):
    return block[0] == block[1]


def are_apart(block, other):
    # Of lines put in at one place neither ones come first by right.
    if takes_none(block) and takes_none(other) and block[0] == other[0]:
        return False
    return is_ahead(block, other) or is_ahead(other, block)


def with_both(base, first, second):
    return base[:first[0]] + first[2] + base[first[1]:second[0]] + second[2] + base[second[1]:]


def put_together(base, own, new):
    if own == base:
        return (list(new), None)
    if new == base or own == new:
        return (list(own), None)
    own_block = block_of(base, own)
    new_block = block_of(base, new)
    if not are_apart(own_block, new_block):
        return (list(new), list(own))
    if is_ahead(own_block, new_block):
        return (with_both(base, own_block, new_block), None)
    return (with_both(base, new_block, own_block), None)
