import random
import unittest

from batchtests.columns import Columns
from batchtests.conditions import Condition
from batchtests.engines import Engine, batches
from batchtests.errors import BadTable, Ended, Failed, NoRow
from batchtests.feeds import Feed, in_block, trial
from batchtests.plans import plain
from helper import OTHER_OBJECTS, joined, random_literals, random_plan, run_by_rules

AB = Columns("a", "b")
FIRST = ("must", "low", ("", "a", 0), ("atmost", "a", "", 9))
SECOND = ("must", "high", ("b", "", 5), ("atmost", "b", "a", 0))
PLAN = plain(Condition(AB, ("and", (FIRST, SECOND))))
GOOD, BAD, DROP, HIGH = {"a": 3, "b": 2}, {"a": -1, "b": 0}, {"a": 20, "b": 9}, {"a": 1, "b": 9}


def feed_of(size, limit=None, rows=()):
    feed = Feed(Engine(PLAN, size, limit))
    feed.add_all(list(rows))
    return feed


class FeedCase(unittest.TestCase):
    def failed(self, index, code, act):
        with self.assertRaises(Failed) as caught:
            act()
        self.assertEqual((caught.exception.index, caught.exception.code), (index, code))

    def ended(self, feed):
        """The feed is closed, and says so ahead of anything else."""
        many = len(feed)
        for thing in [*OTHER_OBJECTS, GOOD, BAD, {"a": True}, [GOOD], [], [None], ()]:
            for act in [feed, feed.add_all, lambda rows: trial(feed, rows)]:
                with self.assertRaises(Ended):
                    act(thing)
        with self.assertRaises(Ended):
            feed.end()
        self.assertEqual(len(feed), many)

    def goes_on(self, feed, rows):
        """What the feed would tell for these rows and the end, without a change of it."""
        told = []
        with feed:
            try:
                for row in rows:
                    told.append(feed(row))
                told.append(feed.end())
            except Failed as failed:
                told.append((failed.index, failed.code))
            told.append(len(feed))
        return told


class TestFeed(FeedCase):
    def test_rows_one_by_one(self):
        feed = feed_of(2)
        self.assertEqual((feed(GOOD), len(feed)), ([], 1))
        self.assertEqual((feed(GOOD), len(feed)), ([0, 1], 2))
        self.assertEqual((feed(DROP), feed(GOOD), feed(row=GOOD)), ([], [3], []))
        self.assertEqual(len(feed), 5)
        self.assertEqual(feed.end(), [4])
        self.assertEqual(len(feed), 5)
        self.ended(feed)

    def test_the_engine(self):
        engine = Engine(PLAN, 2)
        for feed in [Feed(engine), Feed(engine=engine)]:
            self.assertIs(feed.engine, engine)
            self.assertEqual(len(feed), 0)
            self.assertTrue(callable(feed))

    def test_the_end_without_rows_that_wait(self):
        for size in range(1, 9):
            feed = feed_of(size)
            self.assertEqual(feed.end(), [])
            self.ended(feed)
            feed = feed_of(size, rows=[GOOD] * size)
            self.assertEqual(feed.end(), [])
            self.ended(feed)

    def test_the_last_batch_may_be_shorter(self):
        for size in range(2, 9):
            feed = feed_of(size, rows=[DROP] + [GOOD] * (size - 2))
            self.assertEqual(feed.end(), list(range(1, size - 1)))

    def test_failed_in_the_middle(self):
        feed = feed_of(2, rows=[GOOD, GOOD, GOOD])
        self.failed(3, "high", lambda: feed(HIGH))
        self.assertEqual(len(feed), 4)
        self.ended(feed)
        feed = feed_of(3, rows=[HIGH, BAD])
        self.failed(1, "low", lambda: feed(BAD))
        self.assertEqual(len(feed), 3)
        self.ended(feed)

    def test_failed_at_the_end(self):
        feed = feed_of(4, rows=[GOOD, GOOD, GOOD, DROP, HIGH, BAD])
        self.failed(5, "low", feed.end)
        self.assertEqual(len(feed), 6)
        self.ended(feed)

    def test_rows_that_are_refused(self):
        feed = feed_of(3, rows=[GOOD])
        for thing, name in [(None, None), ({}, "a"), ({"a": 1}, "b"), ({"a": True, "b": 1}, "a"), ([1, 2], None),
                            ({"a": 1, "b": 1, "c": 1}, None), ({"a": 1, "b": "1"}, "b")]:
            with self.assertRaises(NoRow) as caught:
                feed(thing)
            self.assertEqual((caught.exception.name, len(feed)), (name, 1))
        for thing in OTHER_OBJECTS:
            with self.assertRaises(NoRow):
                feed(thing)
        self.assertEqual((feed(DROP), feed(GOOD), len(feed)), ([], [0, 2], 3))

    def test_a_row_that_is_changed_after_it_was_fed(self):
        feed = feed_of(3)
        row, other = dict(GOOD), dict(GOOD)
        feed(row)
        row["a"] = -1
        table = [other]
        feed.add_all(table)
        other.clear()
        table.append(BAD)
        self.assertEqual(row, {"a": -1, "b": 2})
        self.assertEqual(feed(GOOD), [0, 1, 2])

    def test_told_lists_are_new(self):
        feed = feed_of(2, 3)
        for told in [feed(GOOD), feed(GOOD), feed(DROP), feed(GOOD)]:
            told.extend([7, 8, 9])
        feed(GOOD)
        told = feed.add_all([GOOD])
        self.assertEqual(told, [])
        told.append(7)
        self.assertEqual(feed.end(), [])

    def test_a_condition_of_other_columns(self):
        feed = Feed(Engine(plain(Condition(Columns("x"), ("atmost", "x", "", 0))), 2))
        with self.assertRaises(NoRow) as caught:
            feed(GOOD)
        self.assertEqual(caught.exception.name, "x")
        self.assertEqual((feed({"x": 1}), feed({"x": 0}), len(feed)), ([], [1], 2))


class TestLimit(FeedCase):
    def test_rows_after_the_limit(self):
        feed = feed_of(2, 1)
        self.assertEqual((feed(GOOD), feed(GOOD)), ([], [0]))
        self.assertEqual((feed(BAD), feed(BAD), feed(GOOD), feed.add_all([HIGH, GOOD])), ([], [], [], []))
        self.assertEqual(len(feed), 7)
        with self.assertRaises(NoRow) as caught:
            feed({"a": 1})
        self.assertEqual(caught.exception.name, "b")
        with self.assertRaises(BadTable) as caught:
            feed.add_all([GOOD, None])
        self.assertEqual((caught.exception.index, len(feed)), (1, 7))
        self.assertEqual(feed.end(), [])
        self.ended(feed)

    def test_the_limit_within_and_at_the_end_of_a_batch(self):
        feed = feed_of(3, 2)
        self.assertEqual([feed(GOOD), feed(GOOD), feed(GOOD), feed(GOOD)], [[], [], [0, 1], []])
        feed = feed_of(2, 4)
        self.assertEqual([feed(GOOD) for _ in range(6)], [[], [0, 1], [], [2, 3], [], []])
        feed = feed_of(4, 1, [DROP, GOOD, GOOD])
        self.assertEqual(feed.end(), [1])

    def test_a_batch_that_stops_before_the_limit_is_reached(self):
        feed = feed_of(3, 1, [GOOD, GOOD])
        self.failed(2, "low", lambda: feed(BAD))
        feed = feed_of(4, 2, [GOOD, GOOD, BAD])
        self.failed(2, "low", feed.end)
        self.ended(feed)


class TestAddAll(FeedCase):
    def test_pieces(self):
        feed = feed_of(3)
        self.assertEqual(feed.add_all([]), [])
        self.assertEqual(feed.add_all([GOOD, DROP]), [])
        self.assertEqual(feed.add_all(rows=[GOOD, GOOD, GOOD, DROP, GOOD]), [0, 2, 3, 4])
        self.assertEqual(len(feed), 7)
        self.assertEqual(feed.end(), [6])

    def test_wrong_tables(self):
        feed = feed_of(2, rows=[GOOD])
        for thing in [*OTHER_OBJECTS, (GOOD,), GOOD, None]:
            if not isinstance(thing, list):
                with self.assertRaises(BadTable) as caught:
                    feed.add_all(thing)
                self.assertEqual((caught.exception.index, len(feed)), (-1, 1))
        for index, rows in [(0, [None]), (1, [BAD, {}, GOOD]), (2, [GOOD, GOOD, {"a": 1, "b": True}, None]),
                            (3, [BAD, BAD, BAD, GOOD["a"]])]:
            with self.assertRaises(BadTable) as caught:
                feed.add_all(rows)
            self.assertEqual((caught.exception.index, len(feed)), (index, 1))
        self.assertEqual(feed(GOOD), [0, 1])

    def test_failed(self):
        feed = feed_of(2, rows=[GOOD])
        self.failed(3, "high", lambda: feed.add_all([GOOD, GOOD, HIGH, GOOD, GOOD]))
        self.assertEqual(len(feed), 4)
        self.ended(feed)
        feed = feed_of(3, rows=[GOOD])
        self.failed(0 + 1, "low", lambda: feed.add_all([BAD, GOOD, GOOD, GOOD]))
        self.assertEqual(len(feed), 3)
        self.ended(feed)

    def test_nothing_that_is_passed_changes(self):
        rows = [dict(GOOD), dict(DROP), dict(BAD)]
        feed_of(4).add_all(rows)
        trial(feed_of(1), rows)
        self.assertEqual(rows, [GOOD, DROP, BAD])


class TestRun(FeedCase):
    """Feeds against the run of the engine (point 8.9)."""

    def fed(self, feed, pieces):
        """The result of rows that are fed in pieces, by calls or by lists, and then the end."""
        selected = []
        try:
            for piece in pieces:
                if len(piece) == 1:
                    selected.extend(feed(piece[0]))
                else:
                    # Where a batch stops, what was selected before it in this piece is told by no list.
                    before = trial(feed, piece)[0] if trial(feed, piece)[1] else None
                    try:
                        selected.extend(feed.add_all(piece))
                    except Failed:
                        selected.extend(before)
                        raise
            selected.extend(feed.end())
        except Failed as failed:
            return selected, (failed.index, failed.code)
        return selected, None

    def test_random_tables(self):
        chance = random.Random(81)
        for _ in range(120):
            literals = random_literals(chance, "ab", 3, 3)
            plan, ways = random_plan(chance, "ab", literals, chance.choice([2, 3, 4]))
            size, limit = chance.randint(1, 8), chance.choice([None, None, 1, 2, 3, 4])
            engine = Engine(plan, size, limit)
            table = [{name: chance.choice([None, *range(-5, 6)]) for name in "ab"} for _ in range(chance.randint(0, 20))]
            expected = joined(run_by_rules(plan, ways, size, limit, table))
            self.assertEqual(engine.run(table), expected)
            self.assertEqual(self.fed(Feed(engine), [[row] for row in table]), expected)
            pieces, rest = [], list(table)
            while rest:
                many = chance.randint(0, 5)
                pieces.append(rest[:many])
                rest = rest[many:]
            self.assertEqual(self.fed(Feed(engine), pieces), expected)
            self.assertEqual(trial(Feed(engine), table), expected)
            self.assertEqual(joined(list(batches(engine, table))), expected)

    def test_each_row_selects_what_its_batch_adds(self):
        chance = random.Random(82)
        for _ in range(40):
            size, limit = chance.randint(1, 5), chance.choice([None, 2, 4])
            table = [chance.choice([GOOD, DROP]) for _ in range(17)]
            feed = feed_of(size, limit)
            told = [feed(row) for row in table]
            pairs = list(batches(feed.engine, table))
            for k, found in enumerate(told):
                full = (k + 1) % size == 0 and k // size < len(pairs)
                self.assertEqual(found, pairs[k // size][0] if full else [])

    def test_side_by_side(self):
        engine = Engine(PLAN, 2)
        one, other = Feed(engine), Feed(engine)
        one(GOOD)
        self.assertEqual((len(one), len(other)), (1, 0))
        self.failed(1, "low", lambda: one(BAD))
        self.assertEqual((other(GOOD), other(GOOD), len(other)), ([], [0, 1], 2))
        self.ended(one)
        self.assertEqual(Feed(engine).end(), [])
        with other:
            third = Feed(engine)
            third(GOOD)
            other(GOOD)
            self.assertEqual((len(third), len(other)), (1, 3))
        self.assertEqual((third(GOOD), len(other)), ([0, 1], 2))
        self.assertEqual(engine.run([GOOD, BAD]), ([], (1, "low")))


class TestTrial(FeedCase):
    def test_rows_that_wait(self):
        feed = feed_of(3, rows=[GOOD, GOOD, DROP, GOOD])
        for _ in range(2):
            self.assertEqual(trial(feed, []), ([3], None))
            self.assertEqual(trial(feed, [DROP, GOOD]), ([3, 5], None))
            self.assertEqual(trial(rows=[GOOD, GOOD, GOOD], feed=feed), ([3, 4, 5, 6], None))
            self.assertEqual(trial(feed, [GOOD, GOOD, GOOD, BAD]), ([3, 4, 5], (7, "low")))
            self.assertEqual(trial(feed, [BAD]), ([], (4, "low")))
            self.assertEqual(len(feed), 4)
        self.assertEqual((feed(DROP), feed(GOOD), feed.end()), ([], [3, 5], []))

    def test_the_limit(self):
        feed = feed_of(2, 3, [GOOD, GOOD, GOOD])
        self.assertEqual(trial(feed, [GOOD, BAD, BAD]), ([2], None))
        self.assertEqual(trial(feed, [BAD]), ([], (3, "low")))
        self.assertEqual(feed(GOOD), [2])
        self.assertEqual(trial(feed, [BAD, BAD]), ([], None))
        self.assertEqual((feed(BAD), len(feed)), ([], 5))

    def test_wrong_tables(self):
        feed = feed_of(2, rows=[GOOD])
        for thing in [*OTHER_OBJECTS, (GOOD,), None]:
            if not isinstance(thing, list):
                with self.assertRaises(BadTable) as caught:
                    trial(feed, thing)
                self.assertEqual(caught.exception.index, -1)
        for index, rows in [(0, [None]), (1, [BAD, {}, {}]), (2, [BAD, BAD, 7])]:
            with self.assertRaises(BadTable) as caught:
                trial(feed, rows)
            self.assertEqual((caught.exception.index, len(feed)), (index, 1))

    def test_results_are_new(self):
        feed = feed_of(1)
        first = trial(feed, [GOOD])
        self.assertIs(type(first), tuple)
        first[0].append(7)
        self.assertEqual(trial(feed, [GOOD]), ([0], None))
        self.assertEqual(feed(GOOD), [0])


class TestBlocks(FeedCase):
    def test_the_feed_itself(self):
        feed = feed_of(2, rows=[GOOD])
        with feed as same:
            self.assertIs(same, feed)

    def test_rows_and_what_is_selected(self):
        feed = feed_of(3, 2, [DROP, GOOD])
        before = self.goes_on(feed, [GOOD, GOOD, GOOD])
        with feed:
            self.assertEqual((feed(GOOD), feed(BAD), len(feed)), ([1, 2], [], 4))
        self.assertEqual(len(feed), 2)
        self.assertEqual(self.goes_on(feed, [GOOD, GOOD, GOOD]), before)
        self.assertEqual((feed(GOOD), len(feed)), ([1, 2], 3))
        with feed:
            feed.add_all([BAD, BAD, BAD, BAD])
        self.assertEqual(len(feed), 3)

    def test_the_end_inside(self):
        feed = feed_of(3, rows=[GOOD])
        with feed:
            self.assertEqual(feed.end(), [0])
            self.ended(feed)
        self.assertEqual((feed(DROP), feed(GOOD)), ([], [0, 2]))

    def test_failed_inside(self):
        feed = feed_of(2, rows=[GOOD])
        with self.assertRaises(Failed):
            with feed:
                feed(BAD)
        self.assertEqual(len(feed), 1)
        self.assertEqual(feed(GOOD), [0, 1])
        with feed:
            self.failed(2, "low", lambda: feed.add_all([BAD, BAD, BAD]))
            self.ended(feed)
        self.assertEqual((feed(DROP), feed(GOOD)), ([], [3]))

    def test_left_by_other_errors(self):
        feed = feed_of(2, rows=[GOOD])
        for error in [KeyError("x"), ZeroDivisionError(), KeyboardInterrupt(), NoRow("a")]:
            with self.assertRaises(type(error)) as caught:
                with feed:
                    feed(GOOD)
                    feed.end()
                    raise error
            self.assertIs(caught.exception, error)
            self.assertEqual(len(feed), 1)
        self.assertEqual(self.goes_on(feed, [GOOD]), [[0, 1], [], 2])

    def test_left_by_return_and_break(self):
        feed = feed_of(2, rows=[GOOD])

        def leave():
            with feed:
                return feed(GOOD)

        self.assertEqual((leave(), len(feed)), ([0, 1], 1))
        for _ in range(3):
            with feed:
                feed(GOOD)
                break
        self.assertEqual(len(feed), 1)

    def test_a_closed_feed(self):
        feed = feed_of(2, rows=[GOOD])
        feed.end()
        with feed:
            self.ended(feed)
        self.ended(feed)
        self.assertEqual(len(feed), 1)

    def test_nested(self):
        feed = feed_of(2)
        with feed:
            feed(GOOD)
            with feed as inner:
                self.assertEqual(inner(GOOD), [0, 1])
                with feed:
                    feed.end()
                    self.ended(feed)
                self.assertEqual(feed(DROP), [])
                self.assertEqual(len(feed), 3)
            self.assertEqual(len(feed), 1)
            with feed:
                self.failed(1, "low", lambda: feed(BAD))
            self.assertEqual(feed(GOOD), [0, 1])
        self.assertEqual(len(feed), 0)
        self.assertEqual((feed(GOOD), feed(GOOD)), ([], [0, 1]))

    def test_one_after_the_other(self):
        feed = feed_of(3, rows=[GOOD])
        for many in range(5):
            with feed:
                feed.add_all([DROP] * many)
                self.assertEqual(len(feed), many + 1)
            self.assertEqual(len(feed), 1)

    def test_blocks_over_two_feeds(self):
        one, other = feed_of(2), feed_of(3)
        with one, other:
            one(GOOD)
            other(GOOD)
            with one:
                one(GOOD)
            self.assertEqual((len(one), len(other)), (1, 1))
        self.assertEqual((len(one), len(other)), (0, 0))


class TestInBlock(FeedCase):
    def test_what_the_deed_returns(self):
        feed = feed_of(2, rows=[GOOD])
        self.assertEqual(in_block(feed, lambda same, row: (same is feed, same(row), len(same)), GOOD), (True, [0, 1], 2))
        self.assertEqual(len(feed), 1)
        self.assertIsNone(in_block(feed, lambda same, value: value, None))
        value = [1]
        self.assertIs(in_block(value=value, deed=lambda same, value: value, feed=feed), value)
        self.assertIs(in_block(feed, lambda same, value: same, 7), feed)

    def test_a_deed_that_ends_or_fails(self):
        feed = feed_of(2, rows=[GOOD])
        self.assertEqual(in_block(feed, lambda same, value: same.end(), 0), [0])
        self.failed(1, "low", lambda: in_block(feed, lambda same, row: same(row), BAD))
        with self.assertRaises(NoRow) as caught:
            in_block(feed, lambda same, row: same(GOOD) + same(row), {"a": 1})
        self.assertEqual((caught.exception.name, len(feed)), ("b", 1))
        with self.assertRaises(ZeroDivisionError):
            in_block(feed, lambda same, k: (same.end(), 1 // k), 0)
        self.assertEqual((len(feed), feed(GOOD)), (1, [0, 1]))

    def test_a_deed_that_tries_and_nests(self):
        feed = feed_of(2, 3, [GOOD])

        def deed(same, depth):
            told = [len(same), trial(same, [GOOD, BAD])]
            if depth:
                same(GOOD)
                told.append(in_block(same, deed, depth - 1))
                with same:
                    told.append(same.end())
                told.append(len(same))
            return told

        # At the innermost deed one row waits again; three rows are added, two of them selected.
        expected = [1, ([0, 1], (2, "low")), [2, ([], (3, "low")), [3, ([2], None)], [2], 3], [], 2]
        for _ in range(2):
            self.assertEqual(in_block(feed, deed, 2), expected)
            self.assertEqual(len(feed), 1)

    def test_an_error_through_nested_blocks(self):
        feed = feed_of(3, rows=[GOOD])

        def deed(same, depth):
            same(DROP)
            if depth == 0:
                raise KeyError("deep")
            return in_block(same, deed, depth - 1)

        with self.assertRaises(KeyError):
            in_block(feed, deed, 3)
        self.assertEqual(self.goes_on(feed, [GOOD, GOOD]), [[], [0, 1, 2], [], 3])

    def test_a_closed_feed(self):
        feed = feed_of(1)
        feed.end()
        self.assertEqual(in_block(feed, lambda same, value: len(same) + value, 5), 5)
        with self.assertRaises(Ended):
            in_block(feed, lambda same, value: same(value), GOOD)
        self.ended(feed)


if __name__ == "__main__":
    unittest.main()
