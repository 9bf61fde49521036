"""The greatest gain under limits, in whole numbers alone.

Each number of a table is one over the table's scale, and each step divides without a rest,
so nothing is ever rounded.
"""

from stillhad.arithmetic import quotients_over


def best_plan(rows, limits, gains):
    """Amounts of some things with the greatest gain, with prices that show it; or amounts that can grow for ever.

    Of each thing, one of an amount gains what gains tells and uses what its place in each row tells,
    all of them integers; of what row k tells there is limits[k], a number. If no gain is the greatest,
    the result is (False, amounts, None): by these amounts nothing is used up, and something is gained.
    Otherwise it is (True, amounts, prices): a price for each row, none below nought, by which what one
    of a thing uses costs at least what it gains, and the limits cost just what the amounts gain.
    """
    table = first_table(rows, limits, gains)
    basis = [len(gains) + k for k in range(len(rows))]
    scale = 1
    column = entering(table)
    while column is not None:
        row = leaving(table, basis, column)
        if row is None:
            return (False, growing(table, basis, column, scale, len(gains)), None)
        table = exchanged(table, row, column, scale)
        scale = table[row][column]
        basis[row] = column
        column = entering(table)
    prices = table[-1][len(gains):-1]
    return (True, standing(table, basis, scale, len(gains)), quotients_over(prices, scale))


def first_table(rows, limits, gains):
    """A line for each row: its numbers, those of what is left unused, its limit; then a line for the gains."""
    table = []
    for k, row in enumerate(rows):
        unused = [1 if at == k else 0 for at in range(len(rows))]
        table.append([*row, *unused, limits[k]])
    table.append([-gain for gain in gains] + [0] * (len(rows) + 1))
    return table


def entering(table):
    """The first column that adds to the gain, None if there is none."""
    # The first one in sequence, here and in leaving, keeps the steps from going round for ever.
    for column, number in enumerate(table[-1][:-1]):
        if number < 0:
            return column
    return None


def leaving(table, basis, column):
    """The line that bounds the column most, of those alike the one of the first column; None if none bounds it."""
    best = None
    for k, line in enumerate(table[:-1]):
        if line[column] <= 0:
            continue
        if best is None or bounds_more(line, table[best], column, basis[k] < basis[best]):
            best = k
    return best


def bounds_more(line, other, column, ahead):
    """Whether the line bounds the column more than the other one, or as much and stands ahead."""
    mine = line[-1] * other[column]
    its = other[-1] * line[column]
    return mine < its or (mine == its and ahead)


def exchanged(table, row, column, scale):
    """The table with the column in the place of what the row's line stood for."""
    chosen = table[row]
    pivot = chosen[column]
    result = []
    for k, line in enumerate(table):
        if k == row:
            result.append(chosen)
        else:
            part = line[column]
            result.append([(mine * pivot - part * its) // scale for mine, its in zip(line, chosen)])
    return result


def standing(table, basis, scale, many):
    """The amounts of the first things, so many, where the table stands."""
    tops = [0] * many
    for line, thing in zip(table, basis):
        if thing < many:
            tops[thing] = line[-1]
    return quotients_over(tops, scale)


def growing(table, basis, column, scale, many):
    """Amounts of the first things, so many, by which the column can grow for ever."""
    tops = [0] * many
    if column < many:
        tops[column] = scale
    for line, thing in zip(table, basis):
        if thing < many:
            tops[thing] = -line[column]
    return quotients_over(tops, scale)
