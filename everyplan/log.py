"""The log: what a store writes, and the shelf that comes up again from it."""

ROWS_OF_PAGE = 4


def page_of(number):
    return number // ROWS_OF_PAGE


def rows_on_page(shelf, table, p):
    return [(number, row) for number, row in shelf[table][1] if page_of(number) == p]


def page_write(shelf, table, p, mark):
    return ("page", table, p, mark, rows_on_page(shelf, table, p))


# All pages in which rows stand, by the frame's tables.
def first_pages(frame, shelf):
    found = []
    for table in frame[0]:
        pages = sorted(set([page_of(number) for number, row in shelf[table[0]][1]]))
        found.extend([page_write(shelf, table[0], p, 0) for p in pages])
    return found


# The log rows of a kept hand; its steps are as changes tell them.
def hand_rows(hand, steps):
    return [("begin", hand)] + [("step", hand) + step for step in steps] + [("kept", hand)]


# A write with lists of its own: what is told or handed in stays the asker's.
def own_write(write):
    return write[:4] + (list(write[4]),) if write[0] == "page" else write


def log_rows(writes):
    return [write[1] for write in writes if write[0] == "log"]


def next_hand(writes):
    return max([row[1] + 1 for row in log_rows(writes)], default=0)


def last_pages(writes):
    pages = {}
    for write in writes:
        if write[0] == "page":
            pages[(write[1], write[2])] = write
    return pages


# The steps of kept hands, each with its place in the log.
def kept_steps(writes):
    rows = log_rows(writes)
    kept = [row[1] for row in rows if row[0] == "kept"]
    return [(place, row) for place, row in enumerate(rows) if row[0] == "step" and row[1] in kept]


def rows_up(table, pages, steps):
    rows = {}
    for write in pages.values():
        if write[1] == table:
            rows.update(write[4])
    for place, step in steps:
        page = pages.get((table, page_of(step[3])))
        if step[2] == table and place >= (0 if page is None else page[3]):
            rows[step[3]] = step[5]
    return [(number, rows[number]) for number in sorted(rows) if rows[number] is not None]


# Numbers are never used twice: so those of rows that went long ago count, too.
def next_up(table, writes, steps):
    numbers = [step[3] for place, step in steps if step[2] == table]
    for write in writes:
        if write[0] == "page" and write[1] == table:
            numbers.extend([number for number, row in write[4]])
    return max(numbers, default=-1) + 1


def shelf_up(frame, writes):
    pages = last_pages(writes)
    steps = kept_steps(writes)
    return dict([(table[0], (next_up(table[0], writes, steps), rows_up(table[0], pages, steps))) for table in frame[0]])
