"""Rows behind one another, and pieces of rows.

Whether one ever passes another hangs on the beasts between alone, so a piece passes as it does in the whole.
"""

from hayherd.ends import last, passings


def joined(one, other):
    """The ROW of one's beasts and, behind them, other's."""
    return one + other


def across(one, other):
    """The rising list of pairs (place in one, place in other): that one of other passes that one of one."""
    many = len(one)
    return [
        (ahead, behind - many)
        for ahead, behind in passings(joined(one, other))
        if ahead < many and behind >= many
    ]


def piece(row, begin, end):
    """The ROW of those from place begin to ahead of place end."""
    return row[begin:end]


def last_of(rows):
    """The last ROW of all the rows joined, one behind the other."""
    whole = ()
    for row in rows:
        whole = joined(whole, row)
    return last(whole)[0]
