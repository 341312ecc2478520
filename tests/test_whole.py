"""[3]: borrowers of one pool whose functions are sound for its door read only answers to their own asks."""

import unittest
from random import Random

from owedanswers.judging import judge
from owedanswers.pools import WORDS, Door, Pool
from owedanswers.runs import Client, Walk
from tests.makers import function, likely_functions
from tests.test_tables import SOME

NAMES = ("ann", "bob", "cy", "d", "zzzzzzzz")


def some_run(chance, given, line):
    """Lengths, and the moves of a run on a line."""
    lengths = {name: chance.randint(0, 3) for name in given.lists}
    walk = Walk(given, lengths)
    if line is not None:
        walk.begin_on(line.mark, line.owed)
    while not walk.is_over:
        walk.step(chance.choice(walk.choices()))
    return lengths, walk.steps


class WholeTest(unittest.TestCase):

    def play(self, chance, door, clients, times):
        """Runs of several borrowers, while some lines are lent by hand; gives the runs."""
        pool = Pool(door)
        found = []
        held = []
        for _ in range(times):
            if chance.random() < 0.3:
                held.append(pool.lend("held"))
            if held and chance.random() < 0.3:
                pool.take(held.pop(chance.randrange(len(held))), ())
            client = chance.choice(clients)
            lengths, moves = some_run(chance, client.function, pool.first_idle())
            found.append(client(pool, lengths, moves))
        return found

    def test_sound_functions(self):
        chance = Random(40)
        given = [function(text) for text in SOME] + likely_functions(40, 150)
        several = 0
        for end in WORDS:
            for fail in WORDS:
                for cut in WORDS:
                    door = Door(end=end, fail=fail, cut=cut)
                    sound = [one for one in chance.sample(given, 25) if judge(one, door)]
                    clients = [Client(one, chance.choice(NAMES)) for one in sound]
                    for one in self.play(chance, door, clients, 25) if clients else []:
                        self.assertEqual((one.strangers, one.stopped), ((), None))
                        several += one.number > 0
        self.assertGreater(several, 100)

    def test_one_that_is_not_sound(self):
        chance = Random(41)
        harmed = 0
        for _ in range(20):
            clients = [Client(function("ask, read"), "ann"), Client(function("ask, ask, read, shield, read, end"), "bob")]
            harmed += any(one.strangers for one in self.play(chance, Door(), clients, 20))
        self.assertGreater(harmed, 15)


if __name__ == "__main__":
    unittest.main()
