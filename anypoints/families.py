"""Families of tables, told by how many places they pay and by sayings that they keep."""

from anypoints.errors import InvalidFamily, InvalidNumber, InvalidSayings, InvalidTable, NoTables, TooMany
from anypoints.ratios import is_integer
from anypoints.tables import PLACES, Table, is_place, whole_numbers, without_divisor

# Every table keeps these rows: none of its steps is below 0.
STEP_ROWS = (
    (1, -1, 0, 0, 0),
    (0, 1, -1, 0, 0),
    (0, 0, 1, -1, 0),
    (0, 0, 0, 1, -1),
    (0, 0, 0, 0, 1),
)


def is_saying(value):
    """Whether the value is a saying."""
    if not isinstance(value, tuple) or not 1 <= len(value) <= PLACES:
        return False
    if not all([is_integer(number) for number in value]):
        return False
    return any([number != 0 for number in value])


def five_of(saying):
    """The saying with 0 for the places that it does not tell."""
    return saying + (0,) * (PLACES - len(saying))


def sayings_from_each(paid, numbers):
    """For each paid place but the last one the saying of the numbers from this place on."""
    if not is_place(paid):
        raise InvalidNumber(paid)
    return [((0,) * (place - 1) + numbers)[:PLACES] for place in range(1, paid)]


def worth(row, points):
    """The sum of the points, each multiplied by the INTEGER of the row at its place."""
    return sum([number * point for number, point in zip(row, points)])


def meeting(one, other, saying):
    """Where the saying cuts the way from a corner that keeps it to one that does not."""
    above = worth(saying, one)
    below = -worth(saying, other)
    return without_divisor([below * near + above * far for near, far in zip(one, other)])


def are_neighbours(one, other, corners, kept):
    """Whether no third corner just keeps all the rows that both of the corners just keep."""
    shared = [row for row in kept if worth(row, one) == 0 and worth(row, other) == 0]
    beside = [corner for corner in corners if all([worth(row, corner) == 0 for row in shared])]
    return len(beside) == 2


def cut(corners, kept, saying):
    """The corners of what keeps the saying as well as the rows that are kept so far."""
    found = [corner for corner in corners if worth(saying, corner) >= 0]
    above = [corner for corner in corners if worth(saying, corner) > 0]
    below = [corner for corner in corners if worth(saying, corner) < 0]
    # Only between neighbours does the saying make a corner; elsewhere it makes sums of such.
    for one in above:
        for other in below:
            if are_neighbours(one, other, corners, kept):
                found.append(meeting(one, other, saying))
    return found


def cut_by_all(corners, kept, sayings):
    """The corners of what keeps all the sayings as well as the rows that are kept so far."""
    for saying in sayings:
        corners = cut(corners, kept, saying)
        kept = [*kept, saying]
    return corners


def corner_rows(paid, sayings):
    """The points of the corners, lists of INTEGERS, in ascending order."""
    corners = [[1] * k + [0] * (PLACES - k) for k in range(1, paid + 1)]
    return sorted(cut_by_all(corners, list(STEP_ROWS), sayings))


def sum_of_corners(family, numbers):
    """The table that the corners, multiplied by the Ratios, add up to, or a like one."""
    rows = family.corner_points()
    points = [worth(whole_numbers(numbers), column) for column in zip(*rows)]
    return Table(*points).reduced()


def most_within(points, rest, kept):
    """How often the points can be taken from the rest so that it still keeps the rows."""
    most = None
    for row in kept:
        each = worth(row, points)
        if each.sign > 0:
            times = worth(row, rest).over(each)
            if most is None or times.is_below(most):
                most = times
    return most


def check_family(family):
    """Raises InvalidFamily unless the value is a Family."""
    if not isinstance(family, Family):
        raise InvalidFamily(family)


class Family:
    """All tables that pay at most so many places and keep all sayings."""

    MOST_SAYINGS = 4

    def __init__(self, paid, *sayings):
        if not is_place(paid):
            raise InvalidNumber(paid)
        for position, saying in enumerate(sayings):
            if not is_saying(saying):
                raise InvalidSayings(position)
        if len(sayings) > self.MOST_SAYINGS:
            raise TooMany("sayings", self.MOST_SAYINGS)
        self._paid = paid
        self._sayings = [five_of(saying) for saying in sayings]
        self._corner_rows = corner_rows(paid, self._sayings)
        if len(self._corner_rows) == 0:
            raise NoTables()
        self._corners = [Table(*row) for row in self._corner_rows]

    @classmethod
    def shrinking(cls, paid):
        """The family of shrinking steps."""
        sayings = sayings_from_each(paid, (1, -2, 1))
        return cls(paid, *sayings)

    @classmethod
    def doubling(cls, paid):
        """The family of doubling."""
        sayings = sayings_from_each(paid, (1, -2))
        return cls(paid, *sayings)

    @property
    def paid(self):
        """How many places the tables pay at most."""
        return self._paid

    def sayings(self):
        """The sayings, tuples of five INTEGERS, as they were passed."""
        return list(self._sayings)

    def corners(self):
        """The corners, in ascending order of the lists of their points."""
        return list(self._corners)

    def corner_points(self):
        """The points of the corners, lists of INTEGERS, in the sequence of the corners."""
        return [list(row) for row in self._corner_rows]

    def __contains__(self, x):
        if not isinstance(x, Table) or x.paid > self._paid:
            return False
        points = x.points()
        return all([worth(saying, points).sign >= 0 for saying in self._sayings])

    def __and__(self, other):
        check_family(other)
        paid = min(self._paid, other.paid)
        sayings = self._sayings + other.sayings()
        return Family(paid, *sayings)

    def parts(self, table):
        """How often each corner is taken, such that they add up to the table."""
        if table not in self:
            raise InvalidTable(table)
        kept = list(STEP_ROWS) + self._sayings
        rest = table.points()
        found = []
        # A corner taken as often as possible leaves a rest that just keeps some row
        # that the corner more than keeps; so one round through them leaves nothing.
        for corner in self._corners:
            points = corner.points()
            times = most_within(points, rest, kept)
            rest = [left - times * point for left, point in zip(rest, points)]
            found.append(times)
        return found

    def is_within(self, other):
        """Whether all tables of the family are in the other one."""
        return self.beyond(other) is None

    def beyond(self, other):
        """A table that is in the family and not in the other one, or None."""
        check_family(other)
        for corner in self._corners:
            if corner not in other:
                return corner
        return None

    def is_same(self, other):
        """Whether both families have the same tables."""
        return self.is_within(other) and other.is_within(self)

    def __eq__(self, other):
        return isinstance(other, Family) and self._paid == other._paid and self._sayings == other._sayings

    def __repr__(self):
        told = [repr(part) for part in [self._paid, *self._sayings]]
        return f"Family({', '.join(told)})"
