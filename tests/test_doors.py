"""[14] to [16], [2] and the classes Leave and Door of the section owedanswers/pools.py."""

import unittest
from itertools import product

from owedanswers.errors import BadDoor
from owedanswers.pools import Door, Leave

WORDS = ("keep", "close", "check", "drain", "ping")
BIG = 10 ** 60 - 1
WAYS = [(), ("return", 0), ("return", 7), ("return", BIG), ("fail", 0), ("fail", 7), ("fail", BIG), ("cut", 0),
        ("cut", 7), ("cut", BIG)]
WRONG = ["", "Keep", "keep ", " keep", "KEEP", "open", "closed", "end", "kee", "keepclose", "keep close", "~" * 2000]


def words_of(door):
    return [door[way] for way in WAYS]


class DoorTest(unittest.TestCase):

    def assert_bad(self, word, call, *args, **more):
        with self.assertRaises(BadDoor) as caught:
            call(*args, **more)
        self.assertEqual(caught.exception.word, word)

    def test_defined_in_this_file(self):
        for member in (Leave, Door):
            self.assertEqual(member.__module__, "owedanswers.pools")
        for name in ("__getitem__", "__setitem__", "change", "copy"):
            self.assertIn(name, vars(Door))

    def test_leave(self):
        self.assertEqual((Leave.KEEP, Leave.CLOSE, Leave.CHECK, Leave.DRAIN, Leave.PING), WORDS)

    def test_keeps_if_nothing_is_said(self):
        self.assertEqual(words_of(Door()), ["keep"] * 10)

    def test_each_word_for_each_reason(self):
        for end, fail, cut in product(WORDS, repeat=3):
            door = Door(end=end, fail=fail, cut=cut)
            self.assertEqual(words_of(door), [end] * 4 + [fail] * 3 + [cut] * 3)

    def test_one_reason(self):
        for word in WORDS:
            self.assertEqual(words_of(Door(end=word)), [word] * 4 + ["keep"] * 6)
            self.assertEqual(words_of(Door(fail=word)), ["keep"] * 4 + [word] * 3 + ["keep"] * 3)
            self.assertEqual(words_of(Door(cut=word)), ["keep"] * 7 + [word] * 3)

    def test_only_by_name(self):
        with self.assertRaises(TypeError):
            Door("keep")

    def test_each_word_for_each_single_way(self):
        for at, way in enumerate(WAYS):
            for word in WORDS:
                one, other = Door(fail="check", cut="ping"), Door(fail="check", cut="ping")
                one[way] = word
                self.assertIsNone(other.change(way, word))
                expected = ["keep"] * 4 + ["check"] * 3 + ["ping"] * 3
                expected[at] = word
                self.assertEqual((words_of(one), words_of(other)), (expected, expected))

    def test_single_ways_again(self):
        door = Door(cut="close")
        door["cut", 3] = "drain"
        door.change(way=("cut", 3), word="ping")
        door[()] = "check"
        self.assertEqual((door[("cut", 3)], door["cut", 4], door[()], door["return", 3]), ("ping", "close", "check", "keep"))
        door["cut", 3] = "close"
        self.assertEqual(door["cut", 3], "close")

    def test_wrong_words(self):
        for word in WRONG:
            self.assert_bad(word, Door, end=word)
            self.assert_bad(word, Door, fail=word)
            self.assert_bad(word, Door, cut=word)

    def test_first_wrong_word(self):
        self.assert_bad("x", Door, end="x", fail="y", cut="z")
        self.assert_bad("x", Door, cut="z", fail="y", end="x")
        self.assert_bad("y", Door, cut="z", fail="y")
        self.assert_bad("y", Door, end="ping", fail="y", cut="z")
        self.assert_bad("z", Door, end="ping", fail="drain", cut="z")
        self.assert_bad("", Door, end="", fail="y")

    def test_later_wrong_word_changes_nothing(self):
        door = Door(end="check", fail="drain", cut="ping")
        door["cut", 7] = "close"
        before = words_of(door)
        for word in WRONG:
            for way in WAYS:
                self.assert_bad(word, door.change, way, word)
                with self.assertRaises(BadDoor) as caught:
                    door[way] = word
                self.assertEqual(caught.exception.word, word)
        self.assertEqual(words_of(door), before)

    def test_copy(self):
        door = Door(end="check", fail="drain", cut="ping")
        door["cut", 7] = "close"
        door[()] = "drain"
        other = door.copy()
        self.assertIsInstance(other, Door)
        self.assertEqual(words_of(other), words_of(door))
        before = words_of(door)
        other["cut", 7] = "keep"
        other["fail", 0] = "keep"
        self.assertEqual(words_of(door), before)
        door["return", 7] = "ping"
        self.assertEqual((other["return", 7], door.copy()["return", 7]), ("check", "ping"))

    def test_is_not_iterated_over(self):
        for call in (list, sorted, iter):
            with self.assertRaises(TypeError):
                call(Door())

    def test_equal_to_nothing_else(self):
        for other in ("keep", None, ("keep", "keep", "keep"), {}, 0):
            self.assertFalse(Door() == other)


if __name__ == "__main__":
    unittest.main()
