"""Steps of rows over a field, for any number of rows, and what they lead to."""

from gridwright.kinds import nought, one, unit_inverse
from gridwright.tables import one_rows, row_less, row_times, rows_beside


def _first_filled(rows, place, start):
    """The index of the first row from a start on that is not nought at the place; None if there is none."""
    for at in range(start, len(rows)):
        if rows[at][place]:
            return at
    return None


def _stepped(rows, place, start, at):
    """The rows with the row `at` brought to the start, 1 at the place there and noughts at it elsewhere."""
    pivot = row_times(rows[at], unit_inverse(rows[at][place]))
    others = [row_less(row, pivot, row[place]) for row in rows[:at] + rows[at + 1:]]
    return others[:start] + [pivot] + others[start:]


def led_to_stairs(rows, width):
    """The rows, led by steps to stairs at so many places, and the tuple of the step places."""
    left = list(rows)
    places = []
    for place in range(width):
        at = _first_filled(left, place, len(places))
        if at is not None:
            left = _stepped(left, place, len(places), at)
            places.append(place)
    return tuple(left), tuple(places)


def base_rows(rows, width):
    """The rows in stairs that are not nought."""
    stair, places = led_to_stairs(rows, width)
    return stair[:len(places)]


def places_left(places, width):
    """The ascending tuple of the places that are not among these."""
    return tuple([place for place in range(width) if place not in places])


def nought_rows(kind, rows, width):
    """For each free place the row with 1 there, 0 at the others, whose products with each of the rows add up to 0."""
    stair, places = led_to_stairs(rows, width)
    found = []
    for free in places_left(places, width):
        numbers = {free: one(kind)}
        for at, place in enumerate(places):
            numbers[place] = -stair[at][free]
        found.append(filled_up(kind, numbers, width))
    return tuple(found)


def filled_up(kind, numbers, width):
    """The row with these numbers at their places, and noughts elsewhere."""
    return tuple([numbers.get(place, nought(kind)) for place in range(width)])


def barring(kind, rows, sums):
    """Numbers whose products with the sums add up to 1, and with each place of the rows to 0; None if none are."""
    width = len(rows[0])
    # What the steps do to the rows of the one grid tells which sums of rows they have made.
    behind = rows_beside([(number,) for number in sums], one_rows(kind, len(rows)))
    stair, places = led_to_stairs(rows_beside(rows, behind), width + 1)
    return stair[len(places) - 1][width + 1:] if width in places else None


def solved(kind, rows, sums):
    """The numbers, 0 at the free places, whose products with each row add up to its sum; None if there are none."""
    width = len(rows[0])
    stair, places = led_to_stairs(rows_beside(rows, [(number,) for number in sums]), width + 1)
    if width in places:
        return None
    return filled_up(kind, {place: stair[at][width] for at, place in enumerate(places)}, width)
