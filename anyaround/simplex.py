"""Whether some columns have a sum, each taken so and so often, or what shows that they have not; in integers.

A TABLEAU is a list of rows of integers, each row a number for each column, then one for each row of the sum asked for,
then what the sum is; all of them are meant divided by one number, that with which one divides, the SCALE.
"""

from anyaround.checks import undivided


def first_tableau(columns, total):
    """The tableau in which what is asked for is still lacking wholly; no number of total is below 0."""
    rows = []
    for k in range(len(total)):
        lacking = [1 if other == k else 0 for other in range(len(total))]
        rows.append([column[k] for column in columns] + lacking + [total[k]])
    return rows


def costs_row(rows, many):
    """What it saves of what is lacking to take more of a column: below 0 if it does."""
    width = len(rows[0])
    lacking = range(many, width - 1)
    return [(1 if k in lacking else 0) - sum([row[k] for row in rows]) for k in range(width)]


def turned(rows, scale, at, column):
    """The rows of a tableau when a column is taken for what the row at stood for."""
    pivot = rows[at]
    found = []
    for number, row in enumerate(rows):
        if number == at:
            found.append(pivot)
        else:
            # Such divisions leave no rest.
            found.append([(mine * pivot[column] - row[column] * other) // scale for mine, other in zip(row, pivot)])
    return found


def leaving_row(rows, basis, column):
    """The number of the row that limits how much of a column can be taken, None if none does."""
    best = None
    for number in range(len(basis)):
        row = rows[number]
        if row[column] > 0:
            if best is None:
                best = number
            else:
                left = row[-1] * rows[best][column]
                right = rows[best][-1] * row[column]
                if left < right or (left == right and basis[number] < basis[best]):
                    best = number
    return best


def first_saving(row):
    """The first column that saves something, None if none does."""
    for k in range(len(row) - 1):
        if row[k] < 0:
            return k
    return None


def settled(columns, total):
    """The rows of the last tableau, that of the costs behind them; the columns that they stand for; its scale.

    Who takes the first column that saves, and of the rows that limit it the one for the first column, comes to an end.
    """
    rows = first_tableau(columns, total)
    basis = [len(columns) + k for k in range(len(total))]
    rows.append(costs_row(rows, len(columns)))
    scale = 1
    column = first_saving(rows[-1])
    while column is not None:
        at = leaving_row(rows, basis, column)
        further = rows[at][column]
        rows = turned(rows, scale, at, column)
        scale = further
        basis[at] = column
        column = first_saving(rows[-1])
    return rows, basis, scale


def shares_for(columns, total):
    """A pair: a dict from numbers of columns to integers from 1 on, and a number from 1 on, or None; None, or signs.

    The columns, so many times each, have together the total so many times as the number says. Signs are integers with
    which each column comes, product by product, to at most 0, but the total to more than 0.
    """
    turns = [1 if number >= 0 else 0 - 1 for number in total]
    upright = [[turn * number for turn, number in zip(turns, column)] for column in columns]
    rows, basis, scale = settled(upright, [turn * number for turn, number in zip(turns, total)])
    last = rows[-1]
    if last[-1] < 0:
        first = len(columns)
        signs = [turns[k] * (scale - last[first + k]) for k in range(len(total))]
        return None, undivided(signs)
    shares = {column: rows[k][-1] for k, column in enumerate(basis) if column < len(columns) and rows[k][-1] > 0}
    numbers = undivided([scale] + [shares[column] for column in sorted(shares)])
    return ({column: share for column, share in zip(sorted(shares), numbers[1:])}, numbers[0]), None
