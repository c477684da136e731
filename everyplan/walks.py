"""Walks through nested tuples by loops alone: what is handed in may lie deeper than calls may go."""


# Each part behind those within it, left ones ahead of right ones.
def parts_first(top, within):
    found = []
    left = [top]
    while left:
        part = left.pop()
        found.append(part)
        left.extend(within(part))
    found.reverse()
    return found


# What build makes of the whole, by what it made of the parts within.
def folded(top, within, build):
    done = []
    for part in parts_first(top, within):
        many = len(within(part))
        given = []
        while len(given) < many:
            given.append(done.pop())
        given.reverse()
        done.append(build(part, given))
    return done[0]


# Alike for two things just where they are alike, but not nested: Python's own == goes only so deep.
def flat(thing):
    found = []
    left = [thing]
    while left:
        part = left.pop()
        if isinstance(part, tuple):
            found.append((len(part),))
            left.extend(part)
        else:
            found.append(part)
    return tuple(found)


# The thing with another one at the end of the path, a tuple of places in tuples within one another.
def replaced(thing, path, other):
    passed = []
    for place in path:
        passed.append((thing, place))
        thing = thing[place]
    for around, place in reversed(passed):
        other = around[:place] + (other,) + around[place + 1:]
    return other
