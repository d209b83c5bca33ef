"""What is kept of tables, to be shared by all whose moment is no later."""


class Kept:
    """By a table and a column: at which moment it was made."""

    def __init__(self):
        self._made = {}

    def want(self, table, column, moment, now):
        made = self._made.get((table, column))
        if made is not None and made >= moment:
            return True
        self._made[(table, column)] = now
        return False
