"""Engines that are given the fates of rows one after the other."""

from batchtests.fates import SELECTED
from batchtests.levels import ERROR
from batchtests.plans import stops
from batchtests.truthwords import FAILS

# No rows in the batch, none of them selected, none selected before, no failure, not over.
START = (0, 0, 0, None, False)


class Runner:
    """An engine that is given the signs of rows, and goes from state to state.

    A sign tells of a fate what the level sees: ("fails", rank, code) of a failure, where the
    rank is that of its place in the order of stops.

    A state is a tuple (filled, waiting, many, failure, over): how many rows the batch has, how
    many of them it will add, how many rows the earlier batches have added, None or (rank, age,
    code) of the failure with which the run ends, and whether it has ended. The age is the number
    of rows after the one that fails.
    """

    def __init__(self, engine, level):
        self.size = engine.size
        self.limit = engine.limit
        self.level = level
        self.ranks = {place: rank for rank, place in enumerate(stops(engine.plan))}

    def sign(self, fate):
        """Return what the level sees of a fate."""
        if fate[0] != FAILS:
            return fate
        # Where no errors are compared, all failures end a run alike.
        return (FAILS, self.ranks[fate[1]], fate[2]) if self.level == ERROR else (FAILS, 0, "")

    def after(self, state, sign):
        """Return the state after one more row."""
        filled, waiting, many, failure, over = state
        failure = older(failure)
        if over:
            return (filled, waiting, many, failure, over)
        if sign[0] == FAILS:
            failure = earlier(failure, sign)
        if failure is not None:
            # A batch that stops adds nothing.
            waiting = 0
        elif sign == SELECTED:
            waiting = waiting + 1
        if filled + 1 < self.size:
            return (filled + 1, waiting, many, failure, False)
        total = self.total(waiting, many)
        return (0, 0, total, failure, failure is not None or total == self.limit)

    def total(self, waiting, many):
        """Return how many rows are selected when the batch has been evaluated."""
        return many + waiting if self.limit is None else min(many + waiting, self.limit)

    def result(self, state):
        """Return how many rows are selected, and None or (age, code), if the table ends here."""
        _, waiting, many, failure, _ = state
        return (self.total(waiting, many), None if failure is None else failure[1:])


def older(failure):
    """Return a failure as it is one row later."""
    if failure is None:
        return None
    rank, age, code = failure
    return (rank, age + 1, code)


def earlier(failure, sign):
    """Return the one of a failure and that of the newest row with which the batch stops."""
    _, rank, code = sign
    if failure is not None and failure[0] <= rank:
        return failure
    return (rank, 0, code)
