"""Tables of whole numbers by named columns, and the plain answer of several."""

from foldbough.errors import NoColumn, NoColumns, NoRow, NoStretch
from foldbough.kinds import MOST_COLUMNS, are_columns, is_name_in, is_row, is_stretch


class Table:
    """Columns and rows with a value for each, each row once; it never changes."""

    def __init__(self, columns, rows=None):
        _check_columns(columns)
        self._columns = list(columns)
        self._rows = _sorted_rows(rows, len(columns))

    def columns(self):
        """The columns, as they were told."""
        return list(self._columns)

    def rows(self):
        """The rows, rising as tuples."""
        return list(self._rows)

    def has(self, row):
        """Whether this row is there."""
        self._check_row(row)
        return row in self._rows

    def with_row(self, row):
        """The table with this row."""
        if self.has(row):
            return self
        return Table(self._columns, self._rows + [row])

    def without_row(self, row):
        """The table without this row."""
        if not self.has(row):
            return self
        return Table(self._columns, [kept for kept in self._rows if kept != row])

    def of(self, columns):
        """The table of some of the columns, in this order."""
        _check_columns(columns)
        for name in columns:
            if name not in self._columns:
                raise NoColumn(name)
        places = _places(self, columns)
        return Table(columns, [_picked(row, places) for row in self._rows])

    def _check_row(self, row):
        if not is_row(row, len(self._columns)):
            raise NoRow(0)

    def __len__(self):
        return len(self._rows)

    def __eq__(self, other):
        return isinstance(other, Table) and self._columns == other._columns and self._rows == other._rows

    def __str__(self):
        return f"{len(self._rows)} rows of {','.join(self._columns)}"


def joined(tables):
    """The table of all columns, with every row that goes with a row of each table."""
    columns = _all_columns(tables)
    if len(columns) > MOST_COLUMNS:
        raise NoColumns("more than eight columns together")
    parts = [Table([], [()])] + tables
    while len(parts) > 1:
        # In the order told, a great many rows might be made that a later table bars.
        one, other = _fewest_together(parts)
        rest = [part for at, part in enumerate(parts) if at not in (one, other)]
        parts = rest + [_joined_two(parts[one], parts[other])]
    return parts[0].of(columns)


def kept_rows(table, column, low, high):
    """The table of the rows whose value in the column is from low to high."""
    if not is_name_in(column, table.columns()):
        raise NoColumn(column)
    if not is_stretch(low, high):
        raise NoStretch("a stretch goes from a whole number to one that is not below it")
    at = table.columns().index(column)
    return Table(table.columns(), [row for row in table.rows() if low <= row[at] <= high])


def _check_columns(columns):
    if not are_columns(columns):
        raise NoColumns("columns are a list of at most eight unlike names")


def _sorted_rows(rows, many):
    """The rows told, each once, rising; many is how many values each has."""
    if rows is None:
        return []
    if not isinstance(rows, list):
        raise NoRow(0)
    for at, row in enumerate(rows):
        if not is_row(row, many):
            raise NoRow(at)
    return sorted({tuple(row) for row in rows})


def _all_columns(tables):
    """The columns of all tables, in the order in which they first come."""
    found = []
    for table in tables:
        for name in table.columns():
            if name not in found:
                found.append(name)
    return found


def _places(table, columns):
    """Where in the table's rows the values of these columns stand."""
    told = table.columns()
    return [told.index(name) for name in columns]


def _picked(row, places):
    """What the row has at these places."""
    return tuple([row[at] for at in places])


def _common(one, other):
    """The columns that both tables have, in the one's order."""
    others = other.columns()
    return [name for name in one.columns() if name in others]


def _by_values(table, columns):
    """The table's rows in lists, by their values in these columns."""
    places = _places(table, columns)
    found = {}
    for row in table.rows():
        found.setdefault(_picked(row, places), []).append(row)
    return found


def _many_together(one, other):
    """How many rows two tables have brought together."""
    common = _common(one, other)
    ones = _by_values(one, common)
    others = _by_values(other, common)
    return sum([len(ones[key]) * len(others[key]) for key in ones if key in others])


def _fewest_together(parts):
    """The places of two tables that brought together have the fewest rows."""
    pairs = [(one, other) for other in range(len(parts)) for one in range(other)]
    found = [(_many_together(parts[one], parts[other]), one, other) for one, other in pairs]
    return min(found)[1:]


def _joined_two(one, other):
    """The plain answer of two tables, the one's columns first."""
    common = _common(one, other)
    further = [name for name in other.columns() if name not in common]
    places = _places(other, further)
    ones = _by_values(one, common)
    others = _by_values(other, common)
    rows = []
    for key in ones:
        behind = [_picked(row, places) for row in others.get(key, [])]
        rows.extend([row + more for row in ones[key] for more in behind])
    return Table(one.columns() + further, rows)
