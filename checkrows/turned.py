"""Rows turned about (point 25)."""


def turned_row(row):
    """The row read from behind."""
    return row[::-1]
