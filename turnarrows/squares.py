"""Reckoning with rows and columns of whole numbers."""


def turned_over(rows):
    """The square whose rows are the columns of the one handed in."""
    return [[row[at] for row in rows] for at in range(len(rows))]


def minor(rows, chosen):
    """The square of the chosen rows and columns alone."""
    return [[rows[row][column] for column in chosen] for row in chosen]


def row_with(rows, at):
    """The number of the first row, from `at` on, with another number than 0 at `at`; None where there is none."""
    for number in range(at, len(rows)):
        if rows[number][at] != 0:
            return number
    return None


def swapped(rows, one, other):
    """New rows, with the two in each other's place, the one of them with its signs turned: so nothing is lost."""
    told = [list(row) for row in rows]
    if one != other:
        told[one] = list(rows[other])
        told[other] = [-number for number in rows[one]]
    return told


def cleared(rows, at, bottom):
    """All rows but that of `at` made 0 at `at`, without fractions: `bottom` is what was at the place before."""
    head = rows[at]
    told = []
    for number, row in enumerate(rows):
        if number == at:
            told.append(list(head))
        else:
            told.append([(head[at] * own - row[at] * over) // bottom for own, over in zip(row, head)])
    return told


def solved(rows, right):
    """A tuple (tops, bottom): the square times the tops is the right side times the bottom, the determinant.

    None where the determinant is 0.
    """
    work = [list(row) + [number] for row, number in zip(rows, right)]
    bottom = 1
    for at in range(len(rows)):
        found = row_with(work, at)
        if found is None:
            return None
        work = swapped(work, at, found)
        work = cleared(work, at, bottom)
        bottom = work[at][at]
    return ([row[len(rows)] for row in work], bottom)


def determinant(rows):
    told = solved(rows, [0] * len(rows))
    return 0 if told is None else told[1]


def common_divisor(numbers):
    """The greatest whole number that divides all of them; 0 where there is no number but 0."""
    told = 0
    for number in numbers:
        other = abs(number)
        while other != 0:
            over = told % other
            told = other
            other = over
    return told


def less(row, times, other):
    return [number - times * over for number, over in zip(row, other)]


def folded(rows, at):
    """Rows of which whole sums reach just the same, the first one alone not 0 at `at`, but above 0.

    Each round makes the numbers at `at` less, as Euclid does. One of them at least is not 0.
    """
    work = [list(row) for row in rows]
    while True:
        alive = [number for number, row in enumerate(work) if row[at] != 0]
        head = min(alive, key=lambda number: abs(work[number][at]))
        if alive == [head]:
            sign = 1 if work[head][at] > 0 else -1
            first = [sign * number for number in work[head]]
            return [first] + work[:head] + work[head + 1:]
        for number in alive:
            if number != head:
                work[number] = less(work[number], work[number][at] // work[head][at], work[head])


def stairs(rows):
    """Rows of which whole sums reach just the same, the row of `at` 0 ahead of `at` and above 0 there.

    The determinant of the rows handed in is not 0.
    """
    told = []
    work = [list(row) for row in rows]
    for at in range(len(rows)):
        work = folded(work, at)
        told.append(work[0])
        work = work[1:]
    return told


def least_by(steps, row):
    """The least row from 0 on that is had from the one handed in by taking stairs off it."""
    told = list(row)
    for at, stair in enumerate(steps):
        told = less(told, told[at] // stair[at], stair)
    return told


def doors_square(house):
    """In the row of a room how many doors it has at its own place, and off each place how many lead there."""
    rows = []
    for room, doors in enumerate(house):
        row = [-doors.count(other) for other in range(len(house))]
        row[room] += len(doors)
        rows.append(row)
    return rows


def least_times(rows, at):
    """How often, once at least, the row with 1 at `at` and else 0 is to be taken to be a whole sum of the rows."""
    told = solved(turned_over(rows), [1 if number == at else 0 for number in range(len(rows))])
    return abs(told[1]) // common_divisor(told[0] + [told[1]])
