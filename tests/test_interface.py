"""The names and parameters of the interface, and [2] for all classes: calls by name, new results, equality."""

import importlib
import inspect
import unittest

from owedanswers import comparing, errors, forms, functions, judging, lines, looker, mends, pools, prices, runs, showing, tables
from tests.changes import ANY_VALUES

FUNCTIONS = {
    "runs": {"run": "pool name function lengths moves", "reports": "function lengths"},
    "tables": {"account": "function", "domain_of": "function entry"},
    "judging": {"judge": "function door"},
    "looker": {"is_history": "function thing", "is_certificate": "function door thing"},
    "showing": {"plain": "", "shown": "function door lengths moves"},
    "prices": {"ways": "function", "kinds": "function way", "needless": "function door", "thrown": "function door lengths"},
    "mends": {"least_mends": "function door shield close", "mended": "function door mends", "is_good": "function door mends"},
    "comparing": {"parted": "one other lengths", "first_parted": "one other most"},
}
METHODS = {
    "forms": {"Form": {"of": "constant pairs", "symbols": "", "put": "symbol other", "written": ""},
              "Domain": {"symbols": "", "least": "form", "greatest": "form"}},
    "functions": {"Function": {"of": "rows", "waits": "", "step_rows": "", "block": "row", "shielded": "rows"}},
    "lines": {"Line": {"ask": "tags", "begin": "tag", "finish": "", "read": "", "head": "", "body": "", "drain": "",
                       "close": "cause", "tags": "", "answers": ""}},
    "pools": {"Leave": {}, "Door": {"change": "way word", "copy": ""},
              "Pool": {"lend": "name", "take": "line way", "within": "name deed", "idle": "", "lent": ""}},
    "runs": {"Walk": {"done": "", "choices": "", "step": "move", "copy": ""}, "Run": {}, "Client": {}},
    "tables": {"Table": {"spots": "", "entries": "spot", "paper": "", "bounds": "spot lengths"}},
    "judging": {"Verdict": {}},
}
MADE_WITH = {
    "Form": "constant coefficients", "Domain": "lengths rounds", "Function": "text", "Line": "number", "Door": "end fail cut",
    "Pool": "door", "Walk": "function lengths", "Client": "function name",
}
SIGNS = {
    "Form": "contains getitem call add radd sub rsub mul rmul neg eq str", "Domain": "contains", "Function": "len str eq",
    "Line": "len contains", "Door": "getitem setitem", "Pool": "getitem contains len", "Client": "call",
    "Table": "len contains", "Verdict": "bool len",
}
ERRORS = {
    "BadSymbol": "symbol", "BadDomain": "symbol", "BadFunction": "row", "TooMany": "what", "NotCut": "row", "Amid": "half",
    "Closed": "number", "Starved": "number", "Failed": "row", "Cut": "row", "BadDoor": "word", "BadName": "name",
    "NotLent": "number", "BadMove": "at", "Faulty": "kind lengths moves",
}
ORDER = ["errors", "forms", "functions", "lines", "pools", "runs", "tables", "judging", "looker", "showing", "prices", "mends",
         "comparing"]


def parameters(call):
    return [name for name in inspect.signature(call).parameters if name not in ("self", "cls")]


def plain():
    return functions.Function.of("ask", "read")


class NamesTest(unittest.TestCase):

    def module(self, name):
        return importlib.import_module(f"owedanswers.{name}")

    def test_functions(self):
        for name, listed in FUNCTIONS.items():
            for word, names in listed.items():
                call = getattr(self.module(name), word)
                self.assertTrue(inspect.isfunction(call), word)
                self.assertEqual((call.__module__, parameters(call)), (f"owedanswers.{name}", names.split()))

    def test_classes(self):
        for name, listed in METHODS.items():
            for word, methods in listed.items():
                made = getattr(self.module(name), word)
                self.assertEqual((made.__module__, made.__name__), (f"owedanswers.{name}", word))
                for method, names in methods.items():
                    self.assertIn(method, vars(made), word)
                    self.assertEqual(parameters(getattr(made, method)), names.split(), (word, method))
                for sign in SIGNS.get(word, "").split():
                    self.assertIn(f"__{sign}__", vars(made), word)
                if word in MADE_WITH:
                    self.assertEqual(parameters(made), MADE_WITH[word].split())

    def test_errors(self):
        for word, fields in ERRORS.items():
            made = getattr(errors, word)
            self.assertEqual(made.__bases__, (errors.OwedError,))
            self.assertEqual(parameters(made), fields.split())
            error = made(*range(len(fields.split())))
            self.assertEqual([getattr(error, field) for field in fields.split()], list(range(len(fields.split()))))
            again = made(**{field: at for at, field in reversed(list(enumerate(fields.split())))})
            self.assertEqual(vars(again), vars(error))
        self.assertTrue(issubclass(errors.OwedError, ValueError))

    def test_modules_need_only_earlier_ones(self):
        for at, name in enumerate(ORDER):
            text = inspect.getsource(self.module(name))
            for later in ORDER[at + 1:]:
                self.assertNotIn(f"from owedanswers.{later} import", text, name)


class ByNameTest(unittest.TestCase):

    def test_forms(self):
        form = forms.Form(r3=1, a=2, constant=5)
        self.assertEqual(form, forms.Form.of(pairs=[("r3", 1), ("a", 2)], constant=5))
        self.assertEqual(form.put(other=forms.Form(1), symbol="r3"), forms.Form(6, a=2))
        domain = forms.Domain(rounds=[("r3", "a", "any")], lengths={"a": "some"})
        self.assertEqual((domain.least(form=form), domain.greatest(form=form)), (7, None))

    def test_functions(self):
        function = functions.Function(text="ask\nread")
        self.assertEqual((function.block(row=1), function.shielded(rows=[1]).rows), (None, ("ask", "shield", "read", "end")))

    def test_lines_and_pools(self):
        line = lines.Line(number=4)
        line.begin(tag="x")
        line.close(cause="y")
        self.assertEqual((line.number, line.cause), (4, "y"))
        door = pools.Door(cut="ping", end="check", fail="drain")
        door.change(word="close", way=("cut", 4))
        pool = pools.Pool(door=door)
        line = pool.lend(name="ann")
        self.assertEqual(pool.take(way=("cut", 3), line=line), 1)
        self.assertEqual(pool.within(deed=lambda line: line.owed, name="bob"), 0)

    def test_runs(self):
        walk = runs.Walk(lengths={}, function=plain())
        self.assertIs(walk.step(move="go"), True)
        pool = pools.Pool(pools.Door())
        moves = [(0, "go"), (1, "go")]
        found = runs.run(moves=moves, lengths={}, function=plain(), name="ann", pool=pool)
        again = runs.Client(name="ann", function=plain())(moves=moves, pool=pool, lengths={})
        self.assertEqual((found.sent, again.sent), (("ann-0",), ("ann-1",)))
        self.assertEqual(runs.reports(lengths={}, function=plain()), [("cut", 1, 0), ("end", 1, 1)])

    def test_the_rest(self):
        table = tables.account(function=plain())
        entry = table.entries(spot=(1, (), ()))[0]
        self.assertEqual(tables.domain_of(entry=entry, function=plain()).symbols(), [])
        self.assertEqual(table.bounds(lengths={}, spot=(1, (), ())), (1, 1))
        certificate = judging.judge(door=pools.Door(), function=plain()).certificate
        self.assertIs(looker.is_history(thing=certificate[2:], function=plain()), True)
        self.assertIs(looker.is_certificate(thing=certificate, door=pools.Door(), function=plain()), True)
        self.assertEqual(len(showing.shown(moves=certificate[3], lengths=certificate[2], door=pools.Door(), function=plain())), 2)
        self.assertEqual(prices.ways(function=plain()), [(), ("cut", 1)])
        self.assertEqual(prices.kinds(way=("cut", 1), function=plain()), (False, True, False))
        self.assertEqual(prices.needless(door=pools.Door(end="close"), function=plain()), [((), "always")])
        self.assertEqual(prices.thrown(lengths={}, door=pools.Door(cut="ping"), function=plain()), 2)
        self.assertEqual(mends.least_mends(close=False, shield=True, door=pools.Door(), function=plain()), [(("shield", 1),)])
        self.assertEqual(mends.mended(mends=(), door=pools.Door(), function=plain())[0], plain())
        self.assertIs(mends.is_good(mends=(), door=pools.Door(), function=plain()), False)
        self.assertIsNone(comparing.parted(lengths={}, other=plain(), one=plain()))
        self.assertIsNone(comparing.first_parted(most=1, other=plain(), one=plain()))


class ObjectsTest(unittest.TestCase):

    def objects(self):
        pool = pools.Pool(pools.Door())
        client = runs.Client(plain(), "ann")
        return [forms.Form(1), forms.Form(0), forms.Domain({}), plain(), lines.Line(), pools.Leave(), pools.Door(), pool,
                runs.Walk(plain(), {}), client, client(pool, {}, [(0, "go"), (1, "go")]), tables.account(plain()),
                judging.judge(plain(), pools.Door()), errors.Cut(1), errors.OwedError("x")]

    def test_equal_to_nothing_of_another_class(self):
        for at, one in enumerate(self.objects()):
            for other in ANY_VALUES + [1.0, "ask\nread", ("ask", "read"), object()]:
                self.assertFalse(one == other)
                self.assertFalse(other == one)
                self.assertTrue(one != other)
            for place, other in enumerate(self.objects()):
                if one.__class__ != other.__class__:
                    self.assertFalse(one == other, (at, place))
                    self.assertTrue(one != other)

    def test_results_are_new(self):
        function = functions.Function.of("each a", "ask", "end", "each a", "read", "end")
        table = tables.account(function)
        door = pools.Door(cut="close")
        calls = [
            lambda: forms.Form(1, a=2).symbols(), lambda: forms.Domain({"a": "any"}).symbols(), function.waits,
            function.step_rows, lambda: runs.reports(function, {"a": 2}), table.spots, lambda: table.entries((4, (), ())),
            lambda: prices.ways(function), lambda: prices.needless(function, pools.Door(end="close")),
            lambda: mends.least_mends(function, pools.Door()), lambda: runs.Walk(function, {"a": 1}).choices(),
            lambda: [one.left_by for one in showing.shown(function, door, (0,), ((0, "over"), (3, "over")))],
        ]
        for call in calls:
            found = call()
            self.assertIs(type(found), list)
            self.assertGreater(len(found), 0)
            before = list(found)
            found.append(None)
            found[0] = None
            self.assertEqual(call(), before)

    def test_arguments_stay(self):
        lengths, moves, words = {"a": 1, "zz": 4}, [(0, "item"), (1, "go"), (2, "over"), (3, "item"), (4, "cut")], {"a": "some"}
        function = functions.Function.of("each a", "ask", "end", "each a", "read", "end")
        door = pools.Door(cut="ping")
        pool = pools.Pool(door)
        runs.run(pool, "ann", function, lengths, moves)
        showing.shown(function, door, (1,), moves)
        runs.reports(function, lengths)
        tables.account(function).bounds((4, (), ()), lengths)
        prices.thrown(function, door, lengths)
        comparing.parted(function, plain(), lengths)
        forms.Domain(words)
        self.assertEqual((lengths, words), ({"a": 1, "zz": 4}, {"a": "some"}))
        self.assertEqual(moves, [(0, "item"), (1, "go"), (2, "over"), (3, "item"), (4, "cut")])
        self.assertEqual((door[("cut", 4)], door[()], function.rows[0]), ("ping", "keep", "each a"))
        walk = runs.Walk(function, lengths)
        lengths["a"] = 0
        self.assertEqual(walk.choices(), ["item"])


if __name__ == "__main__":
    unittest.main()
