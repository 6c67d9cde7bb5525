"""The hay that goes from beast to beast as tolls."""

from hayherd.ends import last, passings, turned_about
from hayherd.kept import refuse_not_kept


def hay_between(row, order):
    """The list of pairs (taken, paid), beast by beast, of tolls on a way from row to that ORDER; NotKept(pair).

    What fallings give back is taken off. Each way there turns the same pairs about, so it's the same on all.
    """
    refuse_not_kept(row, order)
    passing = {pair: True for pair in passings(row)}
    taken = [0] * len(row)
    paid = [0] * len(row)
    for one, other in turned_about(order):
        if (one, other) in passing:
            taken[one] += row[one][1]
            paid[other] += row[one][1]
        else:
            # One falls back behind other, and has the toll again that it paid there.
            taken[other] -= row[other][1]
            paid[one] -= row[other][1]
    return list(zip(taken, paid))


def hay(row):
    """The list of pairs (taken, paid), beast by beast, of tolls till the last."""
    return hay_between(row, last(row)[1])
