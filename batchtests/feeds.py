"""Feeds: engines that receive the rows of a table one at a time."""

from batchtests.engines import checked_table, evaluated
from batchtests.errors import Ended, Failed


class State:
    """Where a feed stands. A state is never changed: the feed goes on to another one."""

    def __init__(self, waiting, added, many, closed):
        # The rows of the batch that is not full; then how many rows were added and selected.
        self.waiting = waiting
        self.added = added
        self.many = many
        self.closed = closed


class Block:
    """What a feed goes back to at the end of a block, and the block around it or None."""

    def __init__(self, state, around):
        self.state = state
        self.around = around


class Feed:
    """The rows of a table that an engine has received so far."""

    def __init__(self, engine):
        self.engine = engine
        self.state = State([], 0, 0, False)
        self.block = None

    def __call__(self, row):
        """Add a row, and return the list of the indexes that are selected by it."""
        check_open(self)
        return self.take(self.engine.columns.row(row))

    def add_all(self, rows):
        """Add the rows of a list, and return the list of the indexes that are selected by them."""
        check_open(self)
        selected = []
        for row in checked_table(self.engine.columns, rows):
            selected.extend(self.take(row))
        return selected

    def end(self):
        """Evaluate the rest, close the feed, and return the list of the indexes that are added."""
        check_open(self)
        self.state, found, error = after_end(self.engine, self.state)
        return found_or_failed(found, error)

    def take(self, row):
        """Add a checked row, and return the list of the indexes that are selected by it."""
        self.state, found, error = after_row(self.engine, self.state, row)
        return found_or_failed(found, error)

    def __len__(self):
        return len(list(range(self.state.added)))

    def __enter__(self):
        self.block = Block(self.state, self.block)
        return self

    def __exit__(self, kind, value, trace):
        block = self.block
        self.state = block.state
        self.block = block.around


def check_open(feed):
    """Raise Ended if the feed is closed."""
    if feed.state.closed:
        raise Ended()


def found_or_failed(found, error):
    """Return what was selected, or raise Failed if a batch stopped."""
    if error is not None:
        raise Failed(error[0], error[1])
    return found


def after_row(engine, state, row):
    """Return the state after a checked row, what is selected by it, and None or (index, code)."""
    added = state.added + 1
    if state.many == engine.limit:
        return (State([], added, state.many, False), [], None)
    waiting = [*state.waiting, row]
    if len(waiting) < engine.size:
        return (State(waiting, added, state.many, False), [], None)
    return after_batch(engine, State(waiting, added, state.many, False))


def after_end(engine, state):
    """Return the state after the end, what is selected by it, and None or (index, code)."""
    return after_batch(engine, State(state.waiting, state.added, state.many, True))


def after_batch(engine, state):
    """Return the state after the rows that wait are evaluated, what is selected, and the error."""
    start = state.added - len(state.waiting)
    found, error = evaluated(engine, state.waiting, start, state.many)
    closed = state.closed or error is not None
    return (State([], state.added, state.many + len(found), closed), found, error)


def in_block(feed, deed, value):
    """Return what the deed returns for the feed and the value, inside a block over the feed."""
    with feed:
        told = deed(feed, value)
    return told


def trial(feed, rows):
    """Return what would be selected, and the error or None, if these rows and the end followed."""
    check_open(feed)
    state = feed.state
    selected = []
    for row in checked_table(feed.engine.columns, rows):
        state, found, error = after_row(feed.engine, state, row)
        if error is not None:
            return (selected, error)
        selected.extend(found)
    _, found, error = after_end(feed.engine, state)
    return (selected + found, error)
