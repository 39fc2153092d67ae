"""Equations over whole numbers, solved without fractions."""


def solved(rows):
    """The tuple (numbers, below) of the solution number / below of equations.

    Each row has the factors of the unknowns and what they must add up to. The determinants of the
    first rows and columns must not be 0, whatever their number.
    """
    rows, below = in_steps(rows)
    many = len(rows)
    numbers = [0] * many
    for at in range(many - 1, -1, -1):
        row = rows[at]
        told = sum([factor * number for factor, number in zip(row[at + 1:many], numbers[at + 1:])])
        # Each number is a determinant of whole numbers, so nothing is left in this division.
        numbers[at] = (row[many] * below - told) // row[at]
    return numbers, below


def in_steps(rows):
    """The rows with nothing below their diagonal, and the determinant of their factors."""
    # This is Bareiss' elimination: each division by the pivot ahead leaves nothing, and keeps numbers short.
    left = [list(row) for row in rows]
    ahead = 1
    for at, _ in enumerate(rows):
        head = left[at]
        pivot = head[at]
        rest = head[at + 1:]
        for other in range(at + 1, len(rows)):
            row = left[other]
            factor = row[at]
            items = [(pivot * item - factor * above) // ahead for item, above in zip(row[at + 1:], rest)]
            left[other] = [0] * (at + 1) + items
        ahead = pivot
    return left, ahead
