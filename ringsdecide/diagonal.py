"""Rows of integers brought into diagonal form, and what that tells of their sums modulo any number.

Rows are dicts: a column, and the entry there, if it is not 0. A step takes a multiple of a row from another row, or a
multiple of a column from another column. All steps are kept, so that what is found for the diagonal form can be
carried back to the rows as they were.
"""

from math import gcd


def inverse(number, modulus):
    """The number that times this one is 1, modulo what has no common divisor with it."""
    before, latest = modulus, number % modulus
    times_before, times = 0, 1
    while latest > 1:
        quotient = before // latest
        before, latest = latest, before - quotient * latest
        times_before, times = times, times_before - quotient * times
    return times % modulus


class Diagonal:
    """Rows in diagonal form: each row has one entry left, or none, and each column likewise."""

    def __init__(self, rows):
        self.many = len(rows)
        # These rows are not in diagonal form yet; columns tell which of them have an entry there.
        self.rows = {}
        self.columns = {}
        for at, row in enumerate(rows):
            for column in row:
                self.put(at, column, row[column])
        # (row, times, other): this row less so many times the other one; of columns likewise.
        self.row_steps = []
        self.column_steps = []
        # Column, and the row and the entry that are left there; a column that is not here has none.
        self.left = {}
        while self.rows:
            self.settle()

    def put(self, at, column, entry):
        """Set an entry."""
        row = self.rows.setdefault(at, {})
        row[column] = entry
        rows_there = self.columns.setdefault(column, {})
        rows_there[at] = True

    def drop(self, at, column):
        """Make an entry 0; a row without entries needs no more steps."""
        del self.rows[at][column]
        del self.columns[column][at]
        if not self.rows[at]:
            del self.rows[at]

    def pivot(self):
        """The row and the column of an entry that is least, in a row with few entries, in a column with few."""
        best = None
        for at in self.rows:
            row = self.rows[at]
            least = min([abs(row[column]) for column in row])
            if best is None or (least, len(row)) < best[:2]:
                best = (least, len(row), at)
            if best[:2] == (1, 1):
                break
        least, _, at = best
        row = self.rows[at]
        _, column = min([(len(self.columns[column]), column) for column in row if abs(row[column]) == least])
        return at, column

    def settle(self):
        """Take the pivot from all else in its column, then in its row; if nothing remains, it is settled."""
        at, column = self.pivot()
        if self.clear_column(at, column) and self.clear_row(at, column):
            self.left[column] = (at, self.rows[at][column])
            self.drop(at, column)

    def clear_column(self, at, column):
        """Take the pivot's row from the others, as often as leaves the least; whether that clears its column."""
        entry = self.rows[at][column]
        others = [index for index in self.columns[column] if index != at]
        for other in others:
            self.take_row(other, self.rows[other][column] // entry, at)
        return len(self.columns[column]) == 1

    def take_row(self, other, times, at):
        """The other row less so many times a row."""
        self.row_steps.append((other, times, at))
        taken = [(column, times * entry) for column, entry in self.rows[at].items()]
        # The entries as they were: the row may be empty for a while.
        before = {column: entry for column, entry in self.rows[other].items()}
        for column, entry in taken:
            rest = before.get(column, 0) - entry
            if rest != 0:
                self.put(other, column, rest)
            elif column in before:
                self.drop(other, column)

    def clear_row(self, at, column):
        """Take the pivot's column, which is clear, from the others likewise; whether that clears its row."""
        pivot = self.rows[at][column]
        for other, entry in list(self.rows[at].items()):
            if other == column:
                continue
            times = entry // pivot
            self.column_steps.append((other, times, column))
            if entry == times * pivot:
                self.drop(at, other)
            else:
                self.put(at, other, entry - times * pivot)
        return len(self.rows[at]) == 1

    def order(self, column):
        """By what a column's entries are multiples of one number alone; 0 if nothing is left there."""
        return abs(self.left[column][1]) if column in self.left else 0

    def after_steps(self, row):
        """A row as it becomes by the steps of columns."""
        found = {column: row[column] for column in row}
        for other, times, column in self.column_steps:
            found[other] = found.get(other, 0) - times * found.get(column, 0)
        return found

    def multiples(self, modulus, row):
        """How often to take each of the rows, modulo a number, so that they sum to this one; None if they can't."""
        wanted = self.after_steps(row)
        found = [0] * self.many
        for column in wanted:
            common = gcd(self.order(column), modulus)
            if wanted[column] % common != 0:
                return None
            if column in self.left:
                at, entry = self.left[column]
                part = modulus // common
                found[at] = wanted[column] // common * inverse(entry // common, part) % part
        for other, times, at in reversed(self.row_steps):
            found[at] = (found[at] - times * found[other]) % modulus
        return found

    def column_against(self, modulus, row):
        """A column that shows that no multiples of the rows sum to this one, modulo a number; None if some do."""
        wanted = self.after_steps(row)
        for column in wanted:
            if wanted[column] % gcd(self.order(column), modulus) != 0:
                return column
        return None

    def weights(self, modulus, column):
        """A dict: a number below the modulus for each column, 0 if it lacks, such that all rows weigh 0 modulo this.

        A row weighs the sum of its entries times these numbers. By those that this column of the diagonal form gives,
        a row weighs 0 just if what is left of it there is a multiple of the order, modulo the modulus.
        """
        found = {column: modulus // gcd(self.order(column), modulus) % modulus}
        for other, times, taken in reversed(self.column_steps):
            found[taken] = (found.get(taken, 0) - times * found.get(other, 0)) % modulus
        return found
