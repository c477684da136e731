"""The plain reading: when a condition holds, and what the answer of an ask is."""

from everyplan.asks import asks_within, columns
from everyplan.books import values_at
from everyplan.conds import conjuncts
from everyplan.frames import column_names, table_named
from everyplan.sums import steps_of, sum_step, worth_by
from everyplan.values import rank, row_rank
from everyplan.walks import folded


# The rows of an ask with their weights, and the names by which the rows' values come.
class Found:
    def __init__(self, names, weights):
        self.names = names
        self.weights = weights


# Rows that are alike in all columns that are read are judged together: the dict to judge them by, and the rows.
def bundled(found, read):
    names = [name for name in found.names if name in read]
    places = [found.names.index(name) for name in names]
    bundles = {}
    for row in found.weights:
        bundles.setdefault(values_at(row, places), []).append(row)
    return [(dict(zip(names, values)), rows) for values, rows in bundles.items()]


# A condition made ready to be read by many rows: steps for each conjunct, so that the reading can
# end at the first one that fails; the asks of somes are answered here, once for all rows.
def readied(frame, book, cond):
    return [ready_steps(frame, book, one) for one in conjuncts(cond)]


def ready_steps(frame, book, cond):
    return [ready_step(frame, book, part) for part in steps_of(cond)]


def ready_step(frame, book, part):
    if part[0] != "some":
        return part
    ready = readied(frame, book, part[2])
    found = found_by(frame, book, part[1])
    return ("some", [known for known, rows in bundled(found, names_read(ready))], ready)


# The names that a condition made ready reads, perhaps with those of the asks of its somes.
def names_read(ready):
    read = {}
    for steps in ready:
        for step in steps:
            if step[0] == "column":
                read[step[1]] = True
            elif step[0] == "some":
                read.update(names_read(step[2]))
    return read


def some_holds(step, known):
    wider = dict(known)
    for row in step[1]:
        wider.update(row)
        if met(step[2], wider):
            return True
    return False


def compared(word, first, second):
    if first is None or second is None:
        return False
    return first == second if word == "is" else rank(first) < rank(second)


# One step of a condition, likewise as of a sum: what comes of it takes the place of what it uses up.
def cond_step(step, done, known):
    word = step[0]
    if word == "some":
        done.append(some_holds(step, known))
    elif word == "isnothing":
        done.append(done.pop() is None)
    elif word == "not":
        done.append(not done.pop())
    elif word == "yes":
        done.append(True)
    else:
        second = done.pop()
        first = done.pop()
        if word == "both":
            done.append(first and second)
        elif word == "either":
            done.append(first or second)
        else:
            done.append(compared(word, first, second))


def outcome(steps, known):
    done = []
    for step in steps:
        if step[0] in ("column", "number", "text", "nothing", "plus", "minus", "times"):
            sum_step(step, done, known)
        else:
            cond_step(step, done, known)
    return done[0]


def met(ready, known):
    for steps in ready:
        if not outcome(steps, known):
            return False
    return True


def holds(frame, book, cond, known):
    return met(readied(frame, book, cond), known)


def add_weight(weights, row, weight):
    weights[row] = weights.get(row, 0) + weight


# Names in order, and the places that they have among those handed in.
def sorted_places(names):
    return sorted(range(len(names)), key=lambda place: names[place])


def table_found(frame, book, part, given):
    names = [part[2] + "." + name for name in column_names(table_named(frame, part[1]))]
    places = sorted_places(names)
    weights = {}
    for row in book[part[1]]:
        add_weight(weights, values_at(row, places), 1)
    return Found(sorted(names), weights)


def pick_found(frame, book, part, given):
    ready = readied(frame, book, part[2])
    weights = {}
    for known, rows in bundled(given[0], names_read(ready)):
        if met(ready, known):
            weights.update([(row, given[0].weights[row]) for row in rows])
    return Found(given[0].names, weights)


def show_found(frame, book, part, given):
    sums = dict(part[2])
    names = sorted(sums)
    steps = [steps_of(sums[name]) for name in names]
    weights = {}
    for row, weight in given[0].weights.items():
        known = dict(zip(given[0].names, row))
        add_weight(weights, tuple([worth_by(one, known) for one in steps]), weight)
    return Found(names, weights)


# For each row of the first side the rows of the second one with which the condition holds.
def matches(frame, book, cond, given):
    ready = readied(frame, book, cond)
    read = names_read(ready)
    others = bundled(given[1], read)
    found = []
    for known, rows in bundled(given[0], read):
        both = dict(known)
        partners = []
        for values, more in others:
            # The names of the second side are the same each time, so none is left from another row.
            both.update(values)
            if met(ready, both):
                partners.extend(more)
        found.extend([(row, partners) for row in rows])
    return found


def join_found(frame, book, part, given):
    names = given[0].names + given[1].names
    places = sorted_places(names)
    weights = {}
    for row, partners in matches(frame, book, part[3], given):
        weight = given[0].weights[row]
        for other in partners:
            weights[values_at(row + other, places)] = weight * given[1].weights[other]
        if part[0] == "left" and not partners:
            nothings = tuple([None for name in given[1].names])
            weights[values_at(row + nothings, places)] = weight
    return Found(sorted(names), weights)


def half_found(frame, book, part, given):
    weights = {}
    for row, partners in matches(frame, book, part[3], given):
        if (len(partners) > 0) == (part[0] == "half"):
            weights[row] = given[0].weights[row]
    return Found(given[0].names, weights)


def once_found(frame, book, part, given):
    return Found(given[0].names, dict([(row, 1) for row in given[0].weights]))


# What a tell of a group tells of the group's rows, (row, weight), place being that of its column.
def told_of(word, place, members):
    if word == "count":
        return sum([weight for row, weight in members])
    there = [(row[place], weight) for row, weight in members if row[place] is not None]
    if not there:
        return None
    if word == "sum":
        return sum([value * weight for value, weight in there])
    values = sorted([value for value, weight in there], key=rank)
    return values[0] if word == "least" else values[-1]


def group_found(frame, book, part, given):
    names = given[0].names
    places = [names.index(name) for name in part[2]]
    groups = {}
    for row, weight in given[0].weights.items():
        groups.setdefault(values_at(row, places), []).append((row, weight))
    tells = [(word, None if name is None else names.index(name)) for own, word, name in part[3]]
    told_names = list(part[2]) + [tell[0] for tell in part[3]]
    order = sorted_places(told_names)
    weights = {}
    for values, members in groups.items():
        whole = values + tuple([told_of(word, place, members) for word, place in tells])
        weights[values_at(whole, order)] = 1
    return Found(sorted(told_names), weights)


def add_found(frame, book, part, given):
    weights = dict(given[0].weights)
    for row, weight in given[1].weights.items():
        add_weight(weights, row, weight)
    return Found(given[0].names, weights)


def sorted_at(place, word, rows):
    if word == "down":
        return sorted(rows, key=lambda row: rank(row[place]), reverse=True)
    return sorted(rows, key=lambda row: rank(row[place]))


# Python's sorting leaves like ones in their order: so the last key is sorted by first.
def in_order(names, rows, keys):
    found = sorted(rows, key=row_rank)
    for name, word in reversed(keys):
        found = sorted_at(list(names).index(name), word, found)
    return found


def first_found(frame, book, part, given):
    names = given[0].names
    room = part[3]
    weights = {}
    for row in in_order(names, list(given[0].weights), part[2]):
        taken = min(room, given[0].weights[row])
        if taken > 0:
            weights[row] = taken
        room -= taken
    return Found(names, weights)


FOUND_BY = {
    "table": table_found, "pick": pick_found, "show": show_found, "join": join_found, "left": join_found,
    "half": half_found, "lack": half_found, "once": once_found, "group": group_found, "add": add_found,
    "first": first_found,
}


def found_by(frame, book, ask):
    def build(part, given):
        read = FOUND_BY[part[0]]
        return read(frame, book, part, given)

    return folded(ask, asks_within, build)


# Whatever is no ask of the frame is refused here, ahead of the reading.
def answer(frame, book, ask):
    columns(frame, ask)
    return found_by(frame, book, ask).weights


def told(frame, book, question):
    names = [column[0] for column in columns(frame, question[0])]
    weights = answer(frame, book, question[0])
    rows = []
    for row, weight in weights.items():
        rows.extend([row] * weight)
    return in_order(names, rows, question[1])
