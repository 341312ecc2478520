"""[20] to [23], [12] to [16], [2] and run, Run and Client of the section owedanswers/runs.py."""

import unittest
from itertools import product
from random import Random

from owedanswers.errors import BadMove, BadName
from owedanswers.functions import Function
from owedanswers.pools import Door, Pool
from owedanswers.runs import Client, Run, run
from tests.oracle import Oracle, OracleLine, some_functions
from tests.test_pools import WORDS, seen

PLAIN = Function.of("ask", "read")
PLAIN_MOVES = ((0, "go"), (1, "go"))


def pairs(text):
    """The pairs of a text such as `0 go, 1 cut`."""
    return [(int(pair.split()[0]), pair.split()[1]) for pair in text.split(", ")] if text else []


def played(pool, name, rows, moves, **lengths):
    """Runs some rows, which are written in one string, as the moves are."""
    return run(pool, name, Function.of(*rows.split(", ")), lengths, pairs(moves))


def told(result):
    """All that is told of a run."""
    return (result.number, result.sent, result.got, result.strangers, result.left_by, result.stopped, result.thrown)


class RunCase(unittest.TestCase):

    def assert_bad_move(self, at, pool, function, lengths, moves):
        before = seen(pool)
        with self.assertRaises(BadMove) as caught:
            run(pool, "ann", function, lengths, moves)
        self.assertEqual(caught.exception.at, at, (moves,))
        self.assertEqual(seen(pool), before)


class RunTest(RunCase):

    def test_defined_in_this_file(self):
        for member in (run, Run, Client):
            self.assertEqual(member.__module__, "owedanswers.runs")
        self.assertIn("__call__", vars(Client))

    def test_plain(self):
        pool = Pool(Door())
        result = run(pool, "ann", PLAIN, {}, PLAIN_MOVES)
        self.assertIsInstance(result, Run)
        self.assertEqual(told(result), (0, ("ann-0",), ("ann-0",), (), (), None, 0))
        self.assertEqual((len(pool), pool.idle(), pool.lent(), pool[0].is_clean), (1, [0], [], True))

    def test_by_name_and_moves_of_both_kinds(self):
        pool = Pool(Door())
        result = run(moves=list(PLAIN_MOVES), lengths={}, function=PLAIN, name="ann", pool=pool)
        self.assertEqual(told(result), (0, ("ann-0",), ("ann-0",), (), (), None, 0))
        self.assertEqual(run(pool, "ann", PLAIN, {}, PLAIN_MOVES).sent, ("ann-1",))

    def test_strangers(self):
        pool = Pool(Door())
        first = run(pool, "first", PLAIN, {}, ((0, "go"), (1, "cut")))
        self.assertEqual(told(first), (0, ("first-0",), (), (), ("cut", 1), None, 0))
        second = run(pool, "second", PLAIN, {}, PLAIN_MOVES)
        self.assertEqual(told(second), (0, ("second-0",), ("first-0",), ("first-0",), (), None, 0))
        # An answer to an ask of an earlier run is a stranger's, whatever the name.
        third = played(pool, "second", "ask, read, read", "0 go, 1 go, 2 go")
        self.assertEqual(told(third), (0, ("second-1",), ("second-0", "second-1"), ("second-0",), (), None, 0))

    def test_strangers_in_order(self):
        pool = Pool(Door())
        played(pool, "ann", "ask, ask, ask", "0 go, 1 go, 2 go")
        result = played(pool, "bob", "ask, read, head, body, read, read", "0 go, 1 go, 2 go, 3 go, 4 go, 5 go")
        self.assertEqual(told(result), (0, ("bob-0",), ("ann-0", "ann-1", "ann-2", "bob-0"), ("ann-0", "ann-1", "ann-2"),
                                        (), None, 0))

    def test_asks_by_hand_are_strangers(self):
        pool = Pool(Door())
        line = pool.lend("ann")
        line.ask("x", "x", "bob-0")
        pool.take(line, ())
        result = played(pool, "bob", "ask, read, read, read", "0 go, 1 go, 2 go, 3 go")
        # The tag is one of its own, whoever has used it before.
        self.assertEqual((result.got, result.strangers), (("x", "x", "bob-0"), ("x", "x")))

    def test_without_step_rows(self):
        pool = Pool(Door(end="close"))
        result = played(pool, "ann", "try, finally, end", "")
        self.assertEqual(told(result), (0, (), (), (), (), None, 0))
        self.assertEqual((pool.lost, pool[0].cause), ((0,), ()))

    def test_tags_over_all_runs_of_a_name(self):
        pool, other = Pool(Door(cut="drain")), Pool(Door())
        rows = "ask, begin, pause, finish, drain"
        cut, done = "0 go, 1 go, 2 cut", "0 go, 1 go, 2 go, 3 go, 4 go"
        self.assertEqual(played(pool, "ann", rows, done).sent, ("ann-0", "ann-1"))
        # A begin uses a tag also if it is never finished.
        self.assertEqual(played(pool, "ann", rows, cut).sent, ("ann-2",))
        self.assertEqual(played(pool, "bob", rows, done).sent, ("bob-0", "bob-1"))
        self.assertEqual(played(pool, "ann", rows, done).sent, ("ann-4", "ann-5"))
        self.assertEqual(played(other, "ann", rows, done).sent, ("ann-0", "ann-1"))
        many = played(pool, "ann", "each a, ask, end, drain", "0 item, " + "1 go, 2 item, " * 11 + "1 go, 2 over, 3 go", a=12)
        self.assertEqual(many.sent, tuple(f"ann-{number}" for number in range(6, 18)))

    def test_rows_with_a_fault_use_no_tag(self):
        pool = Pool(Door())
        result = played(pool, "ann", "begin, ask", "0 go, 1 go")
        self.assertEqual(told(result), (0, (), (), (), None, "amid", 0))
        result = played(pool, "ann", "close, ask", "0 go, 1 go")
        self.assertEqual(told(result), (1, (), (), (), None, "closed", 0))
        self.assertEqual(played(pool, "ann", "ask", "0 go").sent, ("ann-1",))

    def test_begin_without_finish_is_not_sent(self):
        pool = Pool(Door())
        result = played(pool, "ann", "ask, begin, drain", "0 go, 1 go, 2 go")
        self.assertEqual((result.sent, pool[0].mark, pool[0].owed), (("ann-0",), "out", 0))
        result = played(pool, "bob", "finish, read", "0 go, 1 go")
        # The ask was begun by another run.
        self.assertEqual(told(result), (0, (), ("ann-1",), ("ann-1",), (), None, 0))
        result = played(pool, "bob", "begin, finish, begin, finish, head, body", "0 go, 1 go, 2 go, 3 go, 4 go, 5 go")
        self.assertEqual((result.sent, result.got), (("bob-0", "bob-1"), ("bob-0",)))

    def test_finish_for_another_and_an_own_one(self):
        pool = Pool(Door())
        played(pool, "ann", "begin", "0 go")
        result = played(pool, "bob", "finish, begin, finish, read, read", "0 go, 1 go, 2 go, 3 go, 4 go")
        self.assertEqual(told(result), (0, ("bob-0",), ("ann-0", "bob-0"), ("ann-0",), (), None, 0))

    def test_a_head_alone_got_nothing(self):
        pool = Pool(Door())
        result = played(pool, "ann", "ask, head", "0 go, 1 go")
        self.assertEqual((result.got, pool[0].mark, pool[0].owed), ((), "in", 1))
        result = played(pool, "bob", "body", "0 go")
        self.assertEqual(told(result), (0, (), ("ann-0",), ("ann-0",), (), None, 0))

    def test_an_earlier_borrower_left_the_line_amid_or_owing(self):
        cases = [("begin", "0 go", "ask", "0 go", "amid"), ("begin", "0 go", "begin", "0 go", "amid"),
                 ("ask, head", "0 go, 1 go", "read", "0 go", "amid"), ("ask, head", "0 go, 1 go", "head", "0 go", "amid"),
                 ("begin", "0 go", "read", "0 go", "starved"), ("ask", "0 go", "body", "0 go", "amid"),
                 ("ask", "0 go", "retry 2, end", "0 go", "stale"), ("begin", "0 go", "retry 2, end", "0 go", "stale"),
                 ("ask", "0 go", "read", "0 go", None), ("ask, head", "0 go, 1 go", "body", "0 go", None),
                 ("begin", "0 go", "finish", "0 go", None), ("ask", "0 go", "drain, retry 1, end", "0 go, 1 go", None)]
        for before, moves, rows, more, fault in cases:
            pool = Pool(Door())
            played(pool, "ann", before, moves)
            result = played(pool, "bob", rows, more)
            self.assertEqual((result.stopped, result.number), (fault, 0), (before, rows))
            self.assertEqual((pool[0].cause, pool[0].is_open), (fault, fault is None))

    def test_after_an_inner_fault(self):
        cases = [("ask, ask, retry 2, end", "0 go, 1 go, 2 go", "stale"), ("read", "0 go", "starved"),
                 ("ask, body", "0 go, 1 go", "amid")]
        for word in WORDS:
            for rows, moves, fault in cases:
                pool = Pool(Door(end=word, fail=word, cut=word))
                result = played(pool, "ann", rows, moves)
                asks = tuple(f"ann-{number}" for number in range(rows.split(", ").count("ask")))
                self.assertEqual(told(result), (0, asks, (), (), None, fault, 0))
                self.assertEqual((pool[0].cause, pool[0].mark, pool.lost, pool.thrown, pool.lent(), pool.idle()),
                                 (fault, "closed", (), 0, [], []))
            pool = Pool(Door(end=word))
            result = played(pool, "ann", "close, read", "0 go, 1 go")
            self.assertEqual((result.stopped, pool[0].cause, pool.lost, pool.idle()), ("closed", None, (), []))

    def test_row_close(self):
        for word in WORDS:
            pool = Pool(Door(end=word, cut=word))
            self.assertEqual(told(played(pool, "ann", "ask, close, drain", "0 go, 1 go, 2 go")),
                             (0, ("ann-0",), (), (), (), None, 0))
            self.assertEqual((pool[0].cause, pool[0].mark, pool.idle(), pool.lent(), pool.lost), (None, "closed", [], [], ()))
            self.assertEqual(played(pool, "ann", "pause", "0 cut").number, 1)

    def test_each_word_of_the_door(self):
        rows = "ask, ask, maybe, begin, else, maybe, head, end, end, maybe, read, read, end, pause"
        ways = {"out": "0 go, 1 go, 2 yes, 3 go, 9 no, 13 cut", "in": "0 go, 1 go, 2 no, 5 yes, 6 go, 9 no, 13 cut",
                "owing": "0 go, 1 go, 2 no, 5 no, 9 no, 13 cut", "clean": "0 go, 1 go, 2 no, 5 no, 9 yes, 10 go, 11 go, 13 cut"}
        thrown = {("drain", "in"): 2, ("drain", "owing"): 2, ("ping", "owing"): 3, ("ping", "clean"): 1}
        closes = {"keep": (), "close": ("out", "in", "owing", "clean"), "check": ("out", "in", "owing"),
                  "drain": ("out",), "ping": ("out", "in")}
        for word, (kind, moves) in product(WORDS, ways.items()):
            pool = Pool(Door(cut=word))
            pool.take(pool.lend("ann"), ())
            result = played(pool, "ann", rows, moves)
            many = thrown.get((word, kind), 0)
            self.assertEqual((result.number, result.left_by, result.thrown, pool.thrown), (0, ("cut", 13), many, many))
            self.assertEqual(pool[0].is_open, kind not in closes[word], (word, kind))
            self.assertEqual(pool[0].cause, ("cut", 13) if kind in closes[word] else None)
            self.assertEqual(pool.lost, (0,) if (word, kind) == ("close", "clean") else ())

    def test_single_ways_of_the_door(self):
        door = Door(cut="close")
        door["cut", 1] = "drain"
        door["return", 2] = "ping"
        pool = Pool(door)
        self.assertEqual(played(pool, "ann", "ask, read", "0 go, 1 cut").thrown, 1)
        self.assertEqual(played(pool, "ann", "ask, pause, return", "0 go, 1 go, 2 go").thrown, 2)
        self.assertEqual(played(pool, "ann", "ask, check, pause", "0 go, 1 go, 2 cut").thrown, 0)
        self.assertEqual((pool[0].cause, pool.thrown), (("cut", 2), 3))

    def test_uses_the_idle_line_with_the_lowest_number(self):
        pool = Pool(Door())
        lines = [pool.lend("ann") for _ in range(3)]
        lines[1].ask("x")
        pool.take(lines[2], ())
        pool.take(lines[1], ())
        result = played(pool, "bob", "read", "0 go")
        self.assertEqual((result.number, result.got, pool.lent(), pool.idle()), (1, ("x",), [0], [1, 2]))
        self.assertEqual(played(pool, "bob", "ask, read", "0 go, 1 go").number, 1)
        lines[0].begin("y")
        pool.take(lines[0], ())
        self.assertEqual(played(pool, "bob", "ask", "0 go").stopped, "amid")
        self.assertEqual((pool.idle(), played(pool, "bob", "ask", "0 go").number), ([1, 2], 1))

    def test_lengths(self):
        pool = Pool(Door())
        rows = "each a, ask, read, end, each b, pause, end"
        lengths = {"b": 1, "zzz": 10 ** 59, "c": 4}
        function, moves = Function.of(*rows.split(", ")), pairs("0 over, 4 item, 5 go, 6 over")
        self.assertEqual(run(pool, "ann", function, lengths, moves).left_by, ())
        self.assertEqual((lengths, moves), ({"b": 1, "zzz": 10 ** 59, "c": 4}, pairs("0 over, 4 item, 5 go, 6 over")))
        self.assertEqual(played(pool, "ann", rows, "0 item, 1 go, 2 go, 3 item, 1 go, 2 cut", a=10 ** 50).left_by, ("cut", 2))

    def test_two_thousand_steps(self):
        pool = Pool(Door())
        moves = "0 item, " + "1 go, 2 go, 3 item, " * 699 + "1 go, 2 go, 3 over"
        result = played(pool, "ann", "each a, ask, read, end", moves, a=700)
        self.assertEqual((len(result.sent), result.got, result.strangers), (700, result.sent, ()))


class WrongRunsTest(RunCase):

    def test_bad_name_before_bad_move(self):
        pool = Pool(Door())
        played(pool, "ann", "ask", "0 go")
        before = seen(pool)
        for name in ("", "Ann", "ann9", "abcdefghi", "a b"):
            for moves in ((), PLAIN_MOVES, ("x",), PLAIN_MOVES * 2):
                with self.assertRaises(BadName) as caught:
                    run(pool, name, PLAIN, {}, moves)
                self.assertEqual(caught.exception.name, name)
        self.assertEqual(seen(pool), before)

    def test_each_index(self):
        function = Function.of("each a", "ask", "read", "end")
        moves = pairs("0 item, 1 go, 2 go, 3 item, 1 go, 2 go, 3 over")
        wrong = [None, True, 0, 1, 2, 3, "", "go", [], (), {}, {0: "item"}, (0,), ("go",), (0, "go", 0), (1, "item"),
                 (2, "cu"), (2, None), (2, ["go"]), (True, "go"), (False, "item"), ("1", "go"), (None, "go"), (-1, "go"),
                 (4, "go"), ((1,), "go"), (10 ** 59, "go"), [1, "go"], [0, "item"], [2, "go"], [3, "item"], [3, "over"],
                 (1, "go", "go"), ("go", 1), (1, "cut"), (3, "go"), "0g", (1, ("go",)), ((2, "go"), (2, "go"))]
        for at in range(7):
            for value in wrong:
                pool = Pool(Door())
                changed = moves[:at] + [value] + moves[at + 1:]
                self.assert_bad_move(at, pool, function, {"a": 2}, changed)
                self.assert_bad_move(at, pool, function, {"a": 2}, tuple(changed))
                self.assert_bad_move(at, pool, function, {"a": 2}, moves[:at] + [value] * 3)
                self.assertEqual(len(pool), 0)

    def test_true_is_not_1_and_false_is_not_0(self):
        self.assert_bad_move(0, Pool(Door()), PLAIN, {}, [(False, "go"), (1, "go")])
        self.assert_bad_move(1, Pool(Door()), PLAIN, {}, [(0, "go"), (True, "go")])

    def test_too_few(self):
        moves = pairs("0 item, 1 go, 2 go, 3 item, 1 go, 2 go, 3 over")
        for many in range(7):
            self.assert_bad_move(many, Pool(Door()), Function.of("each a", "ask", "read", "end"), {"a": 2}, moves[:many])

    def test_too_many(self):
        for value in ((2, "go"), (1, "go"), None, (0, "go"), 5):
            for moves, end in ((PLAIN_MOVES, 2), (((0, "go"), (1, "cut")), 2)):
                self.assert_bad_move(end, Pool(Door()), PLAIN, {}, moves + (value,))
                self.assert_bad_move(end, Pool(Door()), PLAIN, {}, list(moves) + [value, value])
            self.assert_bad_move(1, Pool(Door()), Function("read\nask"), {}, [(0, "go"), value])
            self.assert_bad_move(0, Pool(Door()), Function.of("try", "finally", "end"), {}, [value])

    def test_impossible_on_this_line(self):
        pool = Pool(Door())
        played(pool, "ann", "ask", "0 go")
        # The first borrower would starve there; this one does not.
        self.assert_bad_move(1, pool, Function("read\nread"), {}, [(0, "go")])
        self.assertEqual(played(pool, "bob", "read, read", "0 go, 1 go").stopped, "starved")
        self.assert_bad_move(1, pool, Function("read\nread"), {}, [(0, "go"), (1, "go")])

    def test_nothing_is_done_before_the_errors(self):
        pool = Pool(Door(end="ping"))
        played(pool, "ann", "ask", "0 go")
        before = seen(pool)
        moves = [(0, "go"), (1, "go"), (2, "go"), (3, "stop")]
        self.assert_bad_move(3, pool, Function.of("ask", "begin", "close", "pause"), {}, moves)
        self.assertEqual((seen(pool), moves[3]), (before, (3, "stop")))
        self.assertEqual(played(pool, "ann", "ask", "0 go").sent, ("ann-1",))


class ClientTest(RunCase):

    def test_is_run(self):
        client = Client(PLAIN, "ann")
        self.assertEqual((client.function, client.name), (PLAIN, "ann"))
        pool = Pool(Door())
        self.assertEqual(told(client(pool, {}, PLAIN_MOVES)), (0, ("ann-0",), ("ann-0",), (), (), None, 0))
        self.assertEqual(told(client(pool, {}, [(0, "go"), (1, "cut")])), (0, ("ann-1",), (), (), ("cut", 1), None, 0))
        other = Client(name="bob", function=PLAIN)
        self.assertEqual(other(moves=PLAIN_MOVES, lengths={}, pool=pool).strangers, ("ann-1",))

    def test_errors(self):
        pool = Pool(Door())
        with self.assertRaises(BadName) as caught:
            Client(PLAIN, "Ann")(pool, {}, ())
        self.assertEqual(caught.exception.name, "Ann")
        with self.assertRaises(BadMove) as caught:
            Client(PLAIN, "ann")(pool, {}, ())
        self.assertEqual((caught.exception.at, len(pool)), (0, 0))


class ManyRunsTest(RunCase):

    def expected(self, door, name, lines, counts, function, lengths, chance):
        """What a run does, step by step, on lines that are kept here; returns its moves and what is told of it."""
        idle = [number for number, line in enumerate(lines) if not line.is_closed]
        if not idle:
            lines.append(OracleLine())
        number = (idle + [len(lines) - 1])[0]
        oracle = Oracle(function.rows, lengths, lines[number])
        own, begun, sent = [], None, []
        while not oracle.is_over():
            tag = f"{name}-{counts.get(name, 0)}"
            row, choices = oracle.row, oracle.choices()
            move = chance.choice(choices)
            oracle.step(move, tag)
            if move != "go" or oracle.fault:
                continue
            if function.rows[row] in ("ask", "begin"):
                own.append(tag)
                counts[name] = counts.get(name, 0) + 1
            if function.rows[row] == "begin":
                begun = tag
            if function.rows[row] == "ask" or function.rows[row] == "finish" and begun:
                sent.append(tag if function.rows[row] == "ask" else begun)
                begun = None
        strangers = tuple(tag for tag in oracle.got if tag not in own)
        thrown = self.leave(door, oracle, lines[number])
        return oracle.steps, (number, tuple(sent), tuple(oracle.got), strangers, oracle.way, oracle.fault, thrown)

    def leave(self, door, oracle, line):
        """Gives the line back; returns how many answers were thrown away."""
        word = "close" if oracle.fault else door[oracle.way]
        owed, mark, clean = len(line.tags), line.mark, line.is_clean()
        closes = {"keep": False, "close": True, "check": not clean, "drain": mark in ("out", "both"), "ping": mark != "whole"}
        if closes[word]:
            line.go("close", None)
        elif word in ("drain", "ping") and mark != "closed":
            line.go("drain", None)
            return owed + (word == "ping")
        return 0

    def test_on_pools_with_doors_of_all_words(self):
        chance = Random(8)
        functions = some_functions(41, 400)
        for at in range(60):
            door = Door(end=chance.choice(WORDS), fail=chance.choice(WORDS), cut=chance.choice(WORDS))
            if at % 4 == 0:
                door = Door()
            pool, lines, counts, thrown = Pool(door), [], {}, 0
            for _ in range(40):
                function, name = chance.choice(functions), chance.choice(["ann", "bob"])
                lengths = {"a": chance.randint(0, 2), "b": chance.randint(0, 2)}
                moves, expected = self.expected(door, name, lines, counts, function, lengths, chance)
                result = run(pool, name, function, lengths, moves)
                self.assertEqual(told(result), expected, (function.rows, moves))
                thrown += result.thrown
                self.assertEqual([(line.mark, line.tags()) for line in (pool[number] for number in range(len(pool)))],
                                 [(line.mark, line.tags) for line in lines])
            self.assertEqual((pool.thrown, pool.lent()), (thrown, []))
            self.assertEqual(pool.idle(), [number for number, line in enumerate(lines) if not line.is_closed])


if __name__ == "__main__":
    unittest.main()
