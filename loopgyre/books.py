"""Books: all states of a size, and how many of them have each web of links."""

from loopgyre.kinds import need_size_to
from loopgyre.links import links
from loopgyre.signs import column_of
from loopgyre.webs import webs

GREATEST_WALKED = 5


def longer_rows(rows, total):
    told = []
    for row in rows:
        for sign in (-1, 0, 1):
            if sum(row) + sign in (0, 1) and total + sign in (0, 1):
                told.append(row + [sign])
    return told


def rows_below(sums):
    rows = [[]]
    for total in sums:
        rows = longer_rows(rows, total)
    return [row for row in rows if sum(row) == 1]


def longer_tables(tables, n):
    told = []
    for table in tables:
        for row in rows_below([sum(column_of(table, c)) for c in range(n)]):
            # No two tables share a row: each is to be the asker's own.
            told.append([list(above) for above in table] + [row])
    return told


def states(n):
    need_size_to(n, GREATEST_WALKED)
    # n rows that come to 1, over n columns that come to no more than 1: so each
    # column comes to 1 in the end.
    tables = [[]]
    for r in range(n):
        tables = longer_tables(tables, n)
    return sorted(tables)


def book(n):
    numbers = {}
    for state in states(n):
        web = tuple(links(state))
        numbers[web] = numbers.get(web, 0) + 1
    return [(web, numbers.get(tuple(web), 0)) for web in webs(n)]
