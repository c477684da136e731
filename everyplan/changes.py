"""Changes: shelves, whose rows have numbers, and what is put, taken or set in them."""

from everyplan.asks import columns, word_of
from everyplan.books import first_break
from everyplan.errors import NoAsk, NoChange, NoKeep
from everyplan.frames import column_names, table_named
from everyplan.plain import met, readied
from everyplan.sums import worth
from everyplan.values import is_value

CHANGE_SIZES = {"put": 3, "take": 3, "set": 4}


def shelf_of(frame, book):
    shelf = {}
    for table in frame[0]:
        rows = book[table[0]]
        shelf[table[0]] = (len(rows), list(enumerate(rows)))
    return shelf


def book_of(shelf):
    return dict([(table, [row for number, row in kept[1]]) for table, kept in shelf.items()])


def copied(shelf):
    return dict([(table, (kept[0], list(kept[1]))) for table, kept in shelf.items()])


def need_change(truth):
    if not truth:
        raise NoChange("this is no change of the frame")


# Refused unless it is an ask of the frame, made of what stands in a change.
def need_ask(frame, ask):
    try:
        columns(frame, ask)
    except NoAsk:
        raise NoChange("this is no condition or sum of the table") from None


def check_put(frame, table, change):
    row = change[2]
    need_change(isinstance(row, tuple) and len(row) == len(table[1]) and all([is_value(value) for value in row]))


def check_take(frame, table, change):
    need_ask(frame, ("pick", ("table", table[0], table[0]), change[2]))


# The pairs of a set are as those of a show, but that their names are columns of the table.
def check_set(frame, table, change):
    check_take(frame, table, change)
    need_ask(frame, ("show", ("table", table[0], table[0]), change[3]))
    need_change(all([name in column_names(table) for name, one in change[3]]))


CHECKED_BY = {"put": check_put, "take": check_take, "set": check_set}


# The table that is changed, where it is a change; whatever else is refused.
def table_of(frame, change):
    word = word_of(change)
    need_change(word in CHANGE_SIZES and len(change) == CHANGE_SIZES[word])
    table = table_named(frame, change[1])
    need_change(table is not None)
    check = CHECKED_BY[word]
    check(frame, table, change)
    return table


def known_of(table, row):
    return dict(zip([table[0] + "." + name for name in column_names(table)], row))


def row_set(table, row, pairs):
    known = known_of(table, row)
    sums = dict(pairs)
    values = dict(zip(column_names(table), row))
    values.update([(name, worth(sums[name], known)) for name in sums])
    return tuple([values[name] for name in column_names(table)])


# The steps of a take or a set, by the rows and the book as they stand.
def steps_by(frame, shelf, table, change):
    ready = readied(frame, book_of(shelf), change[2])
    steps = []
    for number, row in shelf[table[0]][1]:
        if met(ready, known_of(table, row)):
            after = None if change[0] == "take" else row_set(table, row, change[3])
            steps.append((table[0], number, row, after))
    return steps


def steps_of_change(frame, shelf, table, change):
    if change[0] == "put":
        return [(table[0], shelf[table[0]][0], None, change[2])]
    return steps_by(frame, shelf, table, change)


# A shelf with a row at a number, or with none where the row is None; its numbers rise.
def with_row(kept, number, row):
    rows = dict(kept[1])
    rows[number] = row
    rising = [(one, rows[one]) for one in sorted(rows) if rows[one] is not None]
    return (max(kept[0], number + 1), rising)


def with_steps(shelf, steps):
    found = copied(shelf)
    for table, number, before, after in steps:
        found[table] = with_row(found[table], number, after)
    return found


def need_kept(frame, shelf):
    found = first_break(frame, book_of(shelf))
    if found is not None:
        raise NoKeep(found)


def done(frame, shelf, change):
    table = table_of(frame, change)
    steps = steps_of_change(frame, shelf, table, change)
    found = with_steps(shelf, steps)
    need_kept(frame, found)
    return (found, steps)
