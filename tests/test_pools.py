"""[13] to [16], [2] and the class Pool of the section owedanswers/pools.py."""

import unittest
from itertools import product

from owedanswers.errors import Amid, BadName, Closed, Cut, Failed, NotLent, OwedError, Starved
from owedanswers.lines import Line
from owedanswers.pools import Door, Pool

WORDS = ("keep", "close", "check", "drain", "ping")
MARKS = ("whole", "out", "in", "both", "closed")
WAYS = ((), ("return", 2), ("fail", 3), ("cut", 4), ("cut", 10 ** 59))


def make(line, mark, tags=()):
    """Gives a clean line a mark, with the answers to these tags owed."""
    line.ask(*tags)
    if mark in ("in", "both"):
        line.head()
    if mark in ("out", "both"):
        line.begin("begun")
    if mark == "closed":
        line.close("before")


def seen(pool):
    """All that can be seen of a pool."""
    lines = [pool[number] for number in range(len(pool))]
    return (pool.idle(), pool.lent(), pool.lost, pool.thrown, [line in pool for line in lines],
            [(line.mark, line.tags(), line.cause) for line in lines])


class PoolCase(unittest.TestCase):

    def assert_not_lent(self, pool, line, way=()):
        before = seen(pool)
        with self.assertRaises(NotLent) as caught:
            pool.take(line, way)
        self.assertEqual(caught.exception.number, line.number)
        self.assertEqual(seen(pool), before)


class LendTest(PoolCase):

    def test_defined_in_this_file(self):
        self.assertEqual(Pool.__module__, "owedanswers.pools")
        for name in ("lend", "take", "within", "idle", "lent", "__getitem__", "__contains__", "__len__"):
            self.assertIn(name, vars(Pool))

    def test_new(self):
        pool = Pool(Door())
        self.assertEqual((len(pool), pool.idle(), pool.lent(), pool.lost, pool.thrown), (0, [], [], (), 0))
        self.assertEqual(Pool(door=Door()).lent(), [])

    def test_opens_lines_in_order(self):
        pool = Pool(Door())
        lines = [pool.lend("ann") for _ in range(12)]
        self.assertEqual([line.number for line in lines], list(range(12)))
        self.assertEqual((len(pool), pool.idle(), pool.lent()), (12, [], list(range(12))))
        for number, line in enumerate(lines):
            self.assertIsInstance(line, Line)
            self.assertIs(pool[number], line)
            self.assertEqual((line.is_clean, line in pool), (True, False))

    def test_lends_the_idle_line_with_the_lowest_number(self):
        pool = Pool(Door())
        lines = [pool.lend("ann") for _ in range(12)]
        for number in (11, 2, 10, 5):
            self.assertEqual(pool.take(lines[number], ()), 0)
        self.assertEqual((pool.idle(), pool.lent()), ([2, 5, 10, 11], [0, 1, 3, 4, 6, 7, 8, 9]))
        self.assertIs(pool.lend("bob"), lines[2])
        self.assertIs(pool.lend("ann"), lines[5])
        pool.take(lines[0], ())
        self.assertIs(pool.lend("cy"), lines[0])
        self.assertIs(pool.lend("cy"), lines[10])
        self.assertIs(pool.lend("cy"), lines[11])
        self.assertEqual(pool.lend("cy").number, 12)
        self.assertEqual((pool.idle(), pool.lent(), len(pool)), ([], list(range(13)), 13))

    def test_closed_lines_are_not_lent_again(self):
        pool = Pool(Door())
        one, two = pool.lend("ann"), pool.lend("ann")
        one.close()
        self.assertEqual(pool.lent(), [0, 1])
        pool.take(one, ())
        pool.take(two, ())
        self.assertEqual((pool.idle(), pool.lent(), one in pool, two in pool), ([1], [], False, True))
        self.assertIs(pool[0], one)
        self.assertIs(pool.lend("ann"), two)
        self.assertEqual(pool.lend("ann").number, 2)

    def test_names(self):
        for name in ("a", "z", "ann", "abcdefgh", "zzzzzzzz"):
            self.assertEqual(Pool(Door()).lend(name).number, 0)
        self.assertEqual(Pool(Door()).lend(name="bob").number, 0)
        pool = Pool(Door())
        pool.take(pool.lend("ann"), ())
        before = seen(pool)
        for name in ("", "A", "Ann", "ann1", "ann ", " ann", "a-b", "abcdefghi", "ann\n", "~", "a" * 2000, "`", "{"):
            with self.assertRaises(BadName) as caught:
                pool.lend(name)
            self.assertEqual(caught.exception.name, name)
            with self.assertRaises(BadName):
                pool.within(name, lambda line: self.fail())
        self.assertEqual(seen(pool), before)

    def test_several_hundred_lines(self):
        pool = Pool(Door(end="drain"))
        lines = [pool.lend("ann") for _ in range(600)]
        for line in lines[::-1]:
            line.ask("x")
            self.assertEqual(pool.take(line, ()), 1)
        self.assertEqual((len(pool), pool.idle(), pool.thrown), (600, list(range(600)), 600))
        self.assertEqual([pool.lend("ann").number for _ in range(600)], list(range(600)))

    def test_door_that_is_changed_afterwards(self):
        door = Door(end="ping")
        door["cut", 3] = "close"
        pool = Pool(door)
        door[()] = "keep"
        door["cut", 3] = "keep"
        line = pool.lend("ann")
        self.assertEqual(pool.take(line, ()), 1)
        pool.take(pool.lend("ann"), ("cut", 3))
        self.assertEqual((pool.lost, line.cause), ((0,), ("cut", 3)))

    def test_pools_share_nothing(self):
        door = Door(end="ping")
        one, other = Pool(door), Pool(door)
        line = one.lend("ann")
        self.assertEqual((len(other), other.lent()), (0, []))
        self.assertIsNot(other.lend("ann"), line)
        one.take(line, ())
        self.assertEqual((other.lent(), other.thrown, one.thrown), ([0], 0, 1))

    def test_returned_lists_are_new(self):
        pool = Pool(Door())
        pool.lend("ann")
        pool.take(pool.lend("ann"), ())
        pool.idle().append(7)
        pool.lent().clear()
        self.assertEqual((pool.idle(), pool.lent()), ([1], [0]))

    def test_is_not_iterated_over(self):
        pool = Pool(Door())
        pool.lend("ann")
        for call in (list, sorted, iter):
            with self.assertRaises(TypeError):
                call(pool)

    def test_line_in_pool(self):
        one, other = Pool(Door()), Pool(Door())
        line, same = one.lend("ann"), other.lend("ann")
        self.assertEqual((line in one, line in other), (False, False))
        one.take(line, ())
        other.take(same, ())
        self.assertEqual((line in one, line in other, same in other, same in one, Line(0) in one),
                         (True, False, True, False, False))


class TakeTest(PoolCase):

    def expected(self, word, mark, owed):
        """Whether the door closes the line, and what it throws away."""
        clean = mark == "whole" and owed == 0
        if mark == "closed" or word == "keep" or (word == "check" and clean):
            return False, 0
        if word == "drain" and mark in ("whole", "in"):
            return False, owed
        if word == "ping" and mark == "whole":
            return False, owed + 1
        return True, 0

    def assert_taken(self, pool, way, word, mark, tags):
        line = pool.lend("ann")
        make(line, mark, tags)
        owed = 0 if mark == "closed" else len(tags)
        clean = line.is_clean
        lost, thrown = pool.lost, pool.thrown
        closes, many = self.expected(word, mark, owed)
        self.assertEqual(pool.take(line, way), many)
        self.assertEqual(pool.thrown, thrown + many)
        self.assertEqual(pool.lost, lost + ((line.number,) if closes and clean else ()))
        if closes or mark == "closed":
            behind = ("closed", [], way if closes else "before")
        elif word in ("drain", "ping"):
            behind = ("whole", [], None)
        else:
            behind = (mark, list(tags), None)
        self.assertEqual((line.mark, line.tags(), line.cause), behind)
        self.assertEqual((line in pool, line.number in pool.idle(), pool.lent()), (line.is_open, line.is_open, []))
        self.assertEqual(pool.idle(), [number for number in range(len(pool)) if pool[number].is_open])
        self.assert_not_lent(pool, line, way)
        if line.is_open:
            self.assertIs(pool.lend("bob"), line)
            line.drain()
            if line.mark == "out":
                line.finish()
                line.read()
            pool.take(line, ("fail", 999))

    def test_each_word_way_and_mark(self):
        for way, word in product(WAYS, WORDS):
            reason = "end" if way == () or way[0] == "return" else way[0]
            by_reason = Door(**{reason: word})
            single = Door(end="close", fail="check", cut="ping")
            single[way] = word
            for door in (by_reason, single):
                door["fail", 999] = "keep"
                pool = Pool(door)
                for mark in MARKS:
                    for tags in ((), ("x",), ("x", "y", "z")):
                        if tags or mark not in ("in", "both"):
                            with self.subTest(way=way, word=word, mark=mark, tags=tags):
                                self.assert_taken(pool, way, word, mark, tags)

    def test_example(self):
        pool = Pool(Door(cut="ping"))
        line = pool.lend("ann")
        line.ask("x", "y")
        self.assertEqual(pool.take(line, ("cut", 4)), 3)
        self.assertEqual((line.is_clean, pool.thrown, pool.lost), (True, 3, ()))

    def test_by_name(self):
        pool = Pool(Door(cut="close"))
        line = pool.lend("ann")
        self.assertEqual(pool.take(way=("cut", 1), line=line), 0)
        self.assertEqual((pool.lost, line.cause), ((0,), ("cut", 1)))

    def test_lost_in_the_order_in_which_it_happened(self):
        pool = Pool(Door(end="close"))
        lines = [pool.lend("ann") for _ in range(5)]
        lines[1].ask("x")
        lines[4].close()
        for number in (3, 1, 0, 4, 2):
            self.assertEqual(pool.take(lines[number], ()), 0)
        self.assertEqual((pool.lost, pool.thrown, pool.idle(), len(pool)), ((3, 0, 2), 0, [], 5))

    def test_drains_of_borrowers_do_not_count_as_thrown_away(self):
        pool = Pool(Door(end="drain"))
        line = pool.lend("ann")
        line.ask("x", "y")
        line.drain()
        line.ask("z")
        self.assertEqual((pool.thrown, pool.take(line, ()), pool.thrown), (0, 1, 1))

    def test_not_lent(self):
        pool, other = Pool(Door(fail="close")), Pool(Door())
        line, idle, gone, theirs = pool.lend("ann"), pool.lend("ann"), pool.lend("ann"), other.lend("ann")
        pool.take(idle, ())
        pool.take(gone, ("fail", 1))
        for wrong in (idle, gone, theirs, Line(0), Line(1), Line(2), Line(77), Line(-1), Line(10 ** 60 - 1)):
            self.assert_not_lent(pool, wrong)
            self.assert_not_lent(pool, wrong, ("cut", 5))
        self.assertEqual((pool.lent(), pool.idle(), other.lent()), ([0], [1], [0]))
        self.assertEqual(pool.take(line, ()), 0)
        self.assert_not_lent(pool, line)

    def test_a_line_that_is_lent_again_can_be_given_back_again(self):
        pool = Pool(Door())
        line = pool.lend("ann")
        for _ in range(3):
            self.assertEqual(pool.take(line, ()), 0)
            self.assert_not_lent(pool, line)
            self.assertIs(pool.lend("bob"), line)


class WithinTest(PoolCase):

    def test_returns(self):
        pool = Pool(Door(end="ping", fail="close", cut="close"))
        for worth in (None, 0, "x", [1, 2], {"a": ()}):
            lines = []

            def deed(line):
                lines.append(line)
                self.assertEqual((pool.lent(), pool.idle(), line in pool), ([0], [], False))
                line.ask("x")
                return worth

            self.assertIs(pool.within("ann", deed), worth)
            self.assertIs(lines[0], pool[0])
        self.assertEqual((pool.idle(), pool.lent(), pool.thrown, pool.lost, len(pool)), ([0], [], 10, (), 1))
        self.assertEqual(pool.within(name="bob", deed=lambda line: line.owed), 0)

    def test_end_is_the_way(self):
        door = Door(end="check")
        door[()] = "close"
        pool = Pool(door)
        pool.within("ann", lambda line: None)
        self.assertEqual((pool[0].cause, pool.lost), ((), (0,)))

    def raise_within(self, pool, error, tags=()):
        def deed(line):
            line.ask(*tags)
            raise error

        with self.assertRaises(error.__class__) as caught:
            pool.within("ann", deed)
        self.assertIs(caught.exception, error)

    def test_cut_and_failed(self):
        for error, way in ((Cut(4), ("cut", 4)), (Failed(7), ("fail", 7)), (Cut(0), ("cut", 0)), (Failed(0), ("fail", 0))):
            for word in WORDS:
                door = Door(end="close", fail="close", cut="close")
                door[way] = word
                pool = Pool(door)
                self.raise_within(pool, error, ("x", "y"))
                cause = way if word in ("close", "check") else None
                thrown = {"drain": 2, "ping": 3}.get(word, 0)
                self.assertEqual((pool[0].cause, pool[0].owed, pool.thrown), (cause, 2 * (word == "keep"), thrown))
                self.assertEqual((pool.idle(), pool.lent(), pool.lost), ([0] if cause is None else [], [], ()))
            self.raise_within(Pool(Door(**{way[0]: "keep"})), error)

    def test_lost_by_a_deed(self):
        pool = Pool(Door(cut="close"))
        self.raise_within(pool, Cut(3))
        self.assertEqual((pool.lost, pool[0].cause), ((0,), ("cut", 3)))

    def test_any_other_exception(self):
        errors = [Amid("out"), Closed(0), Starved(0), OwedError("x"), NotLent(0), ValueError("x"), KeyError("x"),
                  ZeroDivisionError(), KeyboardInterrupt(), SystemExit(), GeneratorExit(), StopIteration()]
        for error in errors:
            for word in WORDS:
                for tags in ((), ("x", "y")):
                    pool = Pool(Door(end=word, fail=word, cut=word))
                    self.raise_within(pool, error, tags)
                    line = pool[0]
                    self.assertEqual((line.mark, line.is_open, line.is_clean, line.owed, line.tags(), line.cause),
                                     ("closed", False, False, 0, [], None))
                    self.assertEqual((pool.idle(), pool.lent(), pool.lost, pool.thrown), ([], [], (), 0))
                    self.assertEqual(("x" in line, line in pool, line.drain(), len(pool)), (False, False, [], 1))
                    self.assert_not_lent(pool, line)
                    line.close("later")
                    self.assertIsNone(line.cause)
                    self.assertEqual(pool.lend("ann").number, 1)

    def test_other_exception_on_each_mark(self):
        for mark in MARKS:
            pool = Pool(Door(end="drain"))

            def deed(line):
                make(line, mark, ("x", "y"))
                raise RuntimeError("x")

            with self.assertRaises(RuntimeError):
                pool.within("ann", deed)
            self.assertEqual((pool[0].mark, pool[0].owed, pool[0].tags()), ("closed", 0, []))
            self.assertEqual(pool[0].cause, "before" if mark == "closed" else None)
            with self.assertRaises(Closed):
                pool[0].finish()
            self.assertEqual((pool.thrown, pool.lost, pool.lent(), pool.idle()), (0, (), [], []))

    def test_deed_that_closes_the_line(self):
        pool = Pool(Door(end="ping"))
        pool.within("ann", lambda line: line.close("why"))
        self.assertEqual((pool[0].cause, pool.idle(), pool.lent(), pool.lost, pool.thrown), ("why", [], [], (), 0))

    def test_within_one_another(self):
        pool = Pool(Door(cut="drain", fail="close"))

        def inner(line):
            line.ask("x", "y", "z")
            self.assertEqual((line.number, pool.lent()), (1, [0, 1]))
            raise Cut(5)

        def outer(line):
            line.ask("x")
            with self.assertRaises(Cut):
                pool.within("bob", inner)
            self.assertEqual((pool.lent(), pool.idle(), pool.thrown), ([0], [1], 3))
            raise Failed(2)

        self.raise_within_outer(pool, outer)
        self.assertEqual((pool.lent(), pool.idle(), pool.thrown), ([], [1], 3))
        self.assertEqual((pool[0].cause, pool[1].is_clean, pool.lost), (("fail", 2), True, ()))

    def raise_within_outer(self, pool, outer):
        with self.assertRaises(Failed):
            pool.within("ann", outer)

    def test_an_exception_that_leaves_both(self):
        for error, cause in ((Cut(5), ("cut", 5)), (Failed(1), ("fail", 1)), (IndexError(), None)):
            pool = Pool(Door(cut="close", fail="close"))

            def inner(line):
                raise error

            with self.assertRaises(error.__class__) as caught:
                pool.within("ann", lambda line: pool.within("bob", inner))
            self.assertIs(caught.exception, error)
            self.assertEqual((pool[0].cause, pool[1].cause, pool.lent(), pool.idle()), (cause, cause, [], []))
            self.assertEqual(pool.lost, () if cause is None else (1, 0))

    def test_pool_used_by_the_deed(self):
        pool = Pool(Door())
        first = pool.lend("cy")

        def deed(line):
            pool.take(first, ())
            other = pool.lend("bob")
            self.assertIs(other, first)
            new = pool.lend("bob")
            self.assertEqual((line.number, new.number, pool.lent()), (1, 2, [0, 1, 2]))
            pool.take(new, ())
            raise ArithmeticError("x")

        with self.assertRaises(ArithmeticError):
            pool.within("ann", deed)
        self.assertEqual((pool.lent(), pool.idle(), pool[1].is_open), ([0], [2], False))


if __name__ == "__main__":
    unittest.main()
