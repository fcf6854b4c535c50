"""Square grids of whole numbers: systems that they tell, forms that they make, and the roots of these.

A form is a grid that is the same turned over; at a row x it is the sum of its numbers, each times
the two numbers of x by its place.
"""

from bringnear.ratios import common_bottom, whole_row


def whole_grid(table):
    """A whole number above 0, and the grid that the table is times it."""
    bottom = common_bottom(table)
    return bottom, [whole_row(row, bottom) for row in table]


def whole_dot(row, other):
    return sum(first * second for first, second in zip(row, other))


def square_of(grid):
    """The grid turned over times itself: a form nowhere below 0."""
    columns = list(zip(*grid))
    return [[whole_dot(column, other) for other in columns] for column in columns]


def pivot_at(rows, at):
    """The first index from `at` on of a row whose number at that place is not 0; None."""
    for index in range(at, len(rows)):
        if rows[index][at] != 0:
            return index
    return None


def cleared(row, upper, at, before):
    """The row without its number at the place of the pivot; dividing by the pivot before leaves no rest."""
    pivot = upper[at]
    return [(pivot * number - row[at] * above) // before for number, above in zip(row, upper)]


def solved(rows):
    """A system of as many unknowns as rows: (bottom, sides), the unknowns being sides over the bottom, above 0.

    A row is the whole numbers by which it takes the unknowns, and behind them its sides, any number of
    them. None if the unknowns are not told by it.
    """
    many = len(rows)
    before = 1
    for at in range(many):
        found = pivot_at(rows, at)
        if found is None:
            return None
        upper = rows[found]
        others = [row for index, row in enumerate(rows) if index != found]
        others = [cleared(row, upper, at, before) for row in others]
        rows = others[:at] + [upper] + others[at:]
        before = upper[at]
    sign = -1 if before < 0 else 1
    return sign * before, [[sign * number for number in row[many:]] for row in rows]


def unit(many, at):
    """The row of noughts with 1 at one place."""
    return [1 if index == at else 0 for index in range(many)]


def plain_falling_row(form):
    """A row at which the form is below 0, if its numbers along it or those of its first row show one; None."""
    for at, row in enumerate(form):
        if row[at] < 0:
            return unit(len(form), at)
        if form[0][0] == 0 and form[0][at] != 0:
            found = unit(len(form), at)
            found[at] = 2 * form[0][at]
            found[0] = -(row[at] + 1)
            return found
    return None


def falling_row(form, before=1):
    """Any row of whole numbers at which the form is below 0; None."""
    if len(form) == 0:
        return None
    found = plain_falling_row(form)
    if found is not None:
        return found
    first = form[0]
    pivot = first[0]
    if pivot == 0:
        behind = falling_row([row[1:] for row in form[1:]], before)
        return None if behind is None else [0, *behind]
    # What is left is some number above 0 times the form where its first unknown makes it least.
    behind = falling_row([cleared(row, first, 0, before)[1:] for row in form[1:]], pivot)
    if behind is None:
        return None
    return [-whole_dot(first[1:], behind), *[pivot * number for number in behind]]


def root_numbers(form):
    """The numbers, the one of the highest power first, of the polynomial whose roots are those of the form."""
    many = len(form)
    numbers = [1]
    power = [unit(many, at) for at in range(many)]
    for count in range(1, many + 1):
        led = [[whole_dot(row, other) for other in power] for row in form]
        number = -sum(led[at][at] for at in range(many)) // count
        power = [[part + number * one for part, one in zip(row, unit(many, at))] for at, row in enumerate(led)]
        numbers.append(number)
    return numbers


def numbers_about(numbers, place):
    """The numbers of the polynomial by the powers of what the unknown is above the place.

    If all roots are real, none of them is above the place exactly if none of these is below 0.
    """
    found = list(numbers)
    for stop in range(len(found), 1, -1):
        for at in range(1, stop):
            found[at] += place * found[at - 1]
    return found
