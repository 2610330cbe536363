"""Editors (15): their steps, undoing, and what they are behind a with statement."""

from samebytes.edits import Editor
from samebytes.errors import (BadArgument, BadChange, BadMark, BadName, BadObject, BadValue, GraphError, LimitExceeded, MissingObject, NoPlace,
                              NothingToUndo, UnknownMark)
from samebytes.forms import one_text
from samebytes.graphs import Graph
from tests import oracle
from tests.helpers import HUGE, STRANGE, Case, at, chain_graph, twins
from tests.plain import random_worth, rooted

RECORD = ("record", "top", (("d", at("d")), ("l", at("l")), ("n", 1), ("s", at("s"))))
THINGS = {"r": RECORD, "l": ("list", (5, at("e"), "x")), "s": ("set", (1, "x", at("e"), at("f"))),
          "d": ("dict", ((1, "one"), ("1", at("e")), (at("f"), 7), (at("e"), at("f")))), "e": ("list", ()), "f": ("set", ())}
GRAPH = Graph("r", THINGS)

NO_MARKS = [(BadMark, value) for value in STRANGE + ["", "1a", "abcdefghi", at("r"), 0]] + [(UnknownMark, "z"), (UnknownMark, "x0")]
NO_NAMES = [(BadName, value) for value in STRANGE + ["", "a1", "1", "abcdefghi", at("r"), 0, 1]]
NO_WORTHS = [(BadValue, value) for value in [value for value in STRANGE if value != ""] + ["A", ("at", ""), ["at", "r"], ("at", "abcdefghi")]]
NO_INDEXES = [(BadValue, value) for value in STRANGE[:32] + [-1, -HUGE, "0", "", True, False, None, 0.0, 1.0, (0,), [0], at("e"), "x"]]
# Each step with right arguments, and for each of them what is wrong in its place.
STEPS = {
    "set_field": [("mark", "r", NO_MARKS), ("name", "n", NO_NAMES), ("worth", 2, NO_WORTHS)],
    "drop_field": [("mark", "r", NO_MARKS), ("name", "n", NO_NAMES)],
    "set_item": [("mark", "l", NO_MARKS), ("index", 0, NO_INDEXES), ("worth", 2, NO_WORTHS)],
    "insert_item": [("mark", "l", NO_MARKS), ("index", 0, NO_INDEXES), ("worth", 2, NO_WORTHS)],
    "drop_item": [("mark", "l", NO_MARKS), ("index", 0, NO_INDEXES)],
    "add_member": [("mark", "s", NO_MARKS), ("worth", 2, NO_WORTHS)],
    "drop_member": [("mark", "s", NO_MARKS), ("worth", 1, NO_WORTHS)],
    "set_entry": [("mark", "d", NO_MARKS), ("key", 2, NO_WORTHS), ("worth", 2, NO_WORTHS)],
    "drop_entry": [("mark", "d", NO_MARKS), ("key", 1, NO_WORTHS)],
}
KINDS = {"field": "r", "item": "l", "member": "s", "entry": "d"}
CHANGE = (None, {"l": ("list", (at("n"),)), "n": ("set", (at("r"),))})


def call(editor, word):
    """The step of an editor that a word tells."""
    return {"set_field": editor.set_field, "drop_field": editor.drop_field, "set_item": editor.set_item, "insert_item": editor.insert_item,
            "drop_item": editor.drop_item, "add_member": editor.add_member, "drop_member": editor.drop_member, "set_entry": editor.set_entry,
            "drop_entry": editor.drop_entry, "carry_out": editor.carry_out}[word]


def told(editor):
    """All that an editor tells without changing."""
    return repr([editor.graph.root, editor.graph.objects, editor.text, len(editor)])


def stepped(thing, word, *args):
    """The object behind a step, by plain lists and dicts; None if there is no such place."""
    parts = list(thing[-1])
    if word.endswith("item"):
        index = args[0]
        if index > len(parts) or (index == len(parts) and word != "insert_item"):
            return None
        if word != "insert_item":
            del parts[index]
        parts[index:index] = args[1:]
        return ("list", tuple(parts))
    table = dict.fromkeys(parts, True) if thing[0] == "set" else dict(parts)
    if word.startswith("drop"):
        if args[0] not in table:
            return None
        del table[args[0]]
    else:
        table[args[0]] = args[-1]
    return (*thing[:-1], tuple(table if thing[0] == "set" else table.items()))


class TestSteps(Case):

    def assert_step(self, word, args, graph, start=GRAPH):
        """Assert that a step leads to a graph, and that it can be undone."""
        editor = Editor(start)
        self.assertIsNone(call(editor, word)(*args))
        self.assert_exactly((editor.graph.root, editor.graph.objects, len(editor)), (graph.root, graph.objects, 1))
        self.assertEqual(editor.text, one_text(graph))
        self.assertIsNone(editor.undo())
        self.assert_exactly((editor.graph.objects, editor.text, len(editor)), (start.objects, one_text(start), 0))

    def assert_thing(self, word, args, thing, gone=()):
        """Assert that a step leads to this object in the place of the first argument's one."""
        things = {mark: told for mark, told in {**THINGS, args[0]: thing}.items() if mark not in gone}
        self.assert_step(word, args, Graph("r", things))

    def test_making(self):
        editor = Editor(GRAPH)
        self.assertEqual((editor.graph, editor.text, len(editor)), (GRAPH, one_text(GRAPH), 0))
        for value in [*STRANGE, "r", THINGS, Graph, editor]:
            self.assert_error(BadArgument, "value", value, Editor, value)

    def test_fields(self):
        fields = dict(RECORD[2])
        self.assert_thing("set_field", ("r", "n", 2), ("record", "top", tuple({**fields, "n": 2}.items())))
        self.assert_thing("set_field", ("r", "n", "1"), ("record", "top", tuple({**fields, "n": "1"}.items())))
        self.assert_thing("set_field", ("r", "n", at("e")), ("record", "top", tuple({**fields, "n": at("e")}.items())))
        self.assert_thing("set_field", ("r", "new", ""), ("record", "top", (*RECORD[2], ("new", ""))))
        self.assert_thing("set_field", ("r", "a", at("r")), ("record", "top", (*RECORD[2], ("a", at("r")))))
        self.assert_thing("set_field", ("r", "n", 1), RECORD)
        self.assert_thing("drop_field", ("r", "n"), ("record", "top", tuple(pair for pair in RECORD[2] if pair[0] != "n")))
        self.assert_thing("drop_field", ("r", "l"), ("record", "top", tuple(pair for pair in RECORD[2] if pair[0] != "l")), "l")
        self.assert_thing("set_field", ("r", "d", at("l")), ("record", "top", tuple({**fields, "d": at("l")}.items())), "d")
        self.assert_step("set_field", ("r", "d", at("l")), Graph("r", {"r": ("record", "top", (("d", at("l")),)), "l": ("list", ())}),
                         Graph("r", {"r": ("record", "top", (("d", at("l")),)), "l": ("list", ())}))

    def test_items(self):
        self.assert_thing("set_item", ("l", 0, at("f")), ("list", (at("f"), at("e"), "x")))
        self.assert_thing("set_item", ("l", 1, at("e")), THINGS["l"])
        self.assert_thing("set_item", ("l", 2, 0), ("list", (5, at("e"), 0)))
        self.assert_thing("insert_item", ("l", 0, 7), ("list", (7, 5, at("e"), "x")))
        self.assert_thing("insert_item", ("l", 1, at("l")), ("list", (5, at("l"), at("e"), "x")))
        self.assert_thing("insert_item", ("l", 3, 7), ("list", (5, at("e"), "x", 7)))
        self.assert_thing("insert_item", ("e", 0, at("e")), ("list", (at("e"),)))
        self.assert_thing("drop_item", ("l", 0), ("list", (at("e"), "x")))
        self.assert_thing("drop_item", ("l", 1), ("list", (5, "x")))
        self.assert_thing("drop_item", ("l", 2), ("list", (5, at("e"))))
        self.assert_step("set_item", ("a1", 0, 1), Graph("a0", {"a0": ("list", (at("a1"),)), "a1": ("list", (1,))}), chain_graph(5))
        self.assert_step("drop_item", ("a0", 0), Graph("a0", {"a0": ("list", ())}), chain_graph(60))

    def test_members(self):
        self.assert_thing("add_member", ("s", 2), ("set", (*THINGS["s"][1], 2)))
        self.assert_thing("add_member", ("s", "1"), ("set", (*THINGS["s"][1], "1")))
        self.assert_thing("add_member", ("s", at("s")), ("set", (*THINGS["s"][1], at("s"))))
        for worth in THINGS["s"][1]:
            self.assert_thing("add_member", ("s", worth), THINGS["s"])
            self.assert_thing("drop_member", ("s", worth), ("set", tuple(told for told in THINGS["s"][1] if told != worth)))
        self.assert_thing("add_member", ("f", ""), ("set", ("",)))
        self.assert_step("drop_member", ("root", at("t3")), Graph("root", {"root": ("set", (at("t0"), at("t1"), at("t2"))), **dict.fromkeys(["t0", "t1", "t2"], ("list", ()))}),
                         twins(4))

    def test_entries(self):
        entries = dict(THINGS["d"][1])
        for key in entries:
            for worth in (0, "", at("r"), at("e"), entries[key]):
                self.assert_thing("set_entry", ("d", key, worth), ("dict", tuple({**entries, key: worth}.items())))
            self.assert_thing("drop_entry", ("d", key), ("dict", tuple((told, worth) for told, worth in entries.items() if told != key)))
        for key in (2, "", "x", at("d"), at("l"), -1):
            for worth in (0, at("r"), "x"):
                self.assert_thing("set_entry", ("d", key, worth), ("dict", (*THINGS["d"][1], (key, worth))))
        graph = Graph("a", {"a": ("dict", ((at("b"), 1), (1, at("c")))), "b": ("list", ()), "c": ("list", ())})
        self.assert_step("drop_entry", ("a", at("b")), Graph("a", {"a": ("dict", ((1, at("c")),)), "c": ("list", ())}), graph)
        self.assert_step("set_entry", ("a", 1, at("b")), Graph("a", {"a": ("dict", ((at("b"), 1), (1, at("b")))), "b": ("list", ())}), graph)

    def test_whole_changes(self):
        self.assert_step("carry_out", ((None, {}),), GRAPH)
        self.assert_step("carry_out", (("r", {}),), GRAPH)
        self.assert_step("carry_out", ((None, THINGS),), GRAPH)
        self.assert_step("carry_out", (("l", {}),), Graph("l", {"l": THINGS["l"], "e": ("list", ())}))
        self.assert_step("carry_out", (("d", {"f": ("set", (at("q"),)), "q": ("set", (at("f"), at("q"))), "p": ("list", ())}),),
                         Graph("d", {"d": THINGS["d"], "e": ("list", ()), "f": ("set", (at("q"),)), "q": ("set", (at("f"), at("q")))}))
        self.assert_step("carry_out", (("q", {"q": ("list", (7, 7))}),), Graph("q", {"q": ("list", (7, 7))}))
        self.assert_step("carry_out", ((None, {"q": ("list", (7, 7))}),), GRAPH)
        self.assert_step("carry_out", (CHANGE,), Graph("r", {**THINGS, **CHANGE[1]}))

    def test_many_steps_against_a_graph_made_anew(self):
        chance = oracle.chances(1)
        words = [word for word in STEPS] + ["carry_out"]
        right = wrong = 0
        for _ in range(40):
            graph = oracle.random_graph(chance, 8)
            editor, graphs = Editor(graph), [graph]
            for _ in range(40):
                graph = graphs[-1]
                self.assert_exactly((editor.graph.root, editor.graph.objects, len(editor)), (graph.root, graph.objects, len(graphs) - 1))
                if len(graphs) > 1 and chance.random() < 0.25:
                    editor.undo()
                    graphs.pop()
                    continue
                word, mark, marks = chance.choice(words), chance.choice(graph.marks), graph.marks
                suffix = {"record": "field", "list": "item", "set": "member", "dict": "entry"}[graph[mark][0]]
                if chance.random() < 0.7:
                    word = chance.choice([told for told in STEPS if told.endswith(suffix)])
                if word == "carry_out":
                    marks = marks + ["new", "n0"]
                    things = {told: oracle.random_thing(chance, marks, ("record", "list", "set", "dict")) for told in (mark, "new", "n0")}
                    editor.carry_out((None, things))
                    graphs.append(rooted(graph.root, {**graph.objects, **things}))
                    continue
                worths = [random_worth(chance, marks) for _ in range(2)]
                if word.endswith("field"):
                    args = [chance.choice(("left", "right", "up")), worths[0]]
                elif word.endswith("item"):
                    args = [chance.randrange(4), worths[0]]
                else:
                    args = worths if word.endswith("entry") else worths[:1]
                if word in ("drop_field", "drop_item", "drop_entry"):
                    args = args[:1]
                kind = {"field": "record", "item": "list", "member": "set", "entry": "dict"}[word.split("_")[1]]
                thing = stepped(graph[mark], word, *args) if graph[mark][0] == kind else None
                if thing is None:
                    wrong += 1
                    before = told(editor)
                    error = NoPlace if graph[mark][0] == kind else BadObject
                    field, value = ("index", 0) if error is NoPlace else ("value", mark)
                    self.assert_error(error, field, value, call(editor, word), mark, *args)
                    self.assertEqual(told(editor), before)
                else:
                    right += 1
                    call(editor, word)(mark, *args)
                    graphs.append(rooted(graph.root, {**graph.objects, mark: thing}))
                    self.assertEqual(editor.text, one_text(graphs[-1]))
            while len(graphs) > 1:
                editor.undo()
                graphs.pop()
                self.assertEqual((editor.graph, editor.text, len(editor)), (graphs[-1], one_text(graphs[-1]), len(graphs) - 1))
            self.assert_error_without_field(NothingToUndo, editor.undo)
        self.assertTrue(right > 100 and wrong > 100)

    def assert_error_without_field(self, error, call_without):
        with self.assertRaises(GraphError) as caught:
            call_without()
        self.assertIs(caught.exception.__class__, error)
        self.assertEqual(vars(caught.exception), {})

    def test_undo(self):
        editor = Editor(GRAPH)
        self.assert_error_without_field(NothingToUndo, editor.undo)
        editor.add_member("s", 1)
        editor.add_member("s", 1)
        self.assertEqual(len(editor), 2)
        editor.undo()
        self.assertEqual((len(editor), editor.graph), (1, GRAPH))
        editor.set_field("r", "n", 9)
        self.assertEqual(len(editor), 2)
        editor.undo()
        editor.undo()
        self.assertEqual((len(editor), editor.graph), (0, GRAPH))
        for _ in range(2):
            self.assert_error_without_field(NothingToUndo, editor.undo)
        self.assertEqual((len(editor), editor.graph, editor.text), (0, GRAPH, one_text(GRAPH)))

    def test_what_is_gone_comes_back_by_undoing_alone(self):
        editor = Editor(Graph("a", {"a": ("list", (at("b"),)), "b": ("list", (7,))}))
        editor.drop_item("a", 0)
        self.assert_error(MissingObject, "mark", "b", editor.insert_item, "a", 0, at("b"))
        self.assert_error(UnknownMark, "value", "b", editor.insert_item, "b", 0, 1)
        editor.undo()
        self.assertEqual(editor.graph["b"], ("list", (7,)))


class TestErrors(Case):

    def assert_refused(self, error, field, value, word, *args, start=GRAPH, **kwargs):
        """Assert that a step raises an error and leaves an editor with some steps as it was."""
        editor = Editor(start)
        editor.carry_out((None, {}))
        before, graph = told(editor), editor.graph
        self.assert_error(error, field, value, call(editor, word), *args, **kwargs)
        self.assertEqual(told(editor), before)
        self.assertEqual(editor.graph, graph)
        editor.undo()
        self.assertEqual((editor.graph, len(editor)), (start, 0))

    def test_one_wrong_argument(self):
        for word, arguments in STEPS.items():
            right = {name: value for name, value, _ in arguments}
            for name, _, wrong in arguments:
                editor = Editor(GRAPH)
                for error, value in wrong:
                    self.assert_error(error, "value", value, call(editor, word), **{**right, name: value})
                self.assertEqual((editor.graph, len(editor)), (GRAPH, 0))

    def test_several_wrong_arguments(self):
        for word, arguments in STEPS.items():
            right = {name: value for name, value, _ in arguments}
            for place, (name, _, wrong) in enumerate(arguments):
                for further, _, worse in arguments[place + 1:]:
                    for error, value in wrong[::6]:
                        for _, nothing in worse[::6]:
                            self.assert_error(error, "value", value, call(Editor(GRAPH), word), **{**right, name: value, further: nothing})

    def test_objects_of_another_kind(self):
        for word, arguments in STEPS.items():
            for kind, mark in {**KINDS, "e": "e", "f": "f"}.items():
                if kind not in word and GRAPH[mark][0] != GRAPH[arguments[0][1]][0]:
                    rest = [value for _, value, _ in arguments[1:]]
                    self.assert_refused(BadObject, "value", mark, word, mark, *rest)
                    # Behind what is wrong in an argument, and ahead of all else.
                    for place, (_, _, wrong) in list(enumerate(arguments))[1:]:
                        self.assert_refused(wrong[0][0], "value", wrong[0][1], word, mark, *rest[:place - 1], wrong[0][1], *rest[place:])
        self.assert_refused(BadObject, "value", "s", "set_item", "s", 99, at("zz"))
        self.assert_refused(BadObject, "value", "s", "drop_entry", "s", at("zz"))
        self.assert_refused(BadObject, "value", "s", "drop_field", "s", "nope")
        self.assert_refused(BadObject, "value", "d", "drop_member", "d", 99)
        self.assert_refused(BadObject, "value", "l", "set_field", "l", "n", at("zz"))

    def test_no_such_place(self):
        for word, args in (("drop_field", ("r", "no")), ("drop_field", ("r", "at")), ("drop_item", ("l", 3)), ("drop_item", ("e", 0)), ("drop_item", ("l", HUGE)),
                           ("set_item", ("l", 3, 1)), ("set_item", ("e", 0, 1)), ("set_item", ("l", 10 ** 30, at("zz"))), ("insert_item", ("l", 4, 1)),
                           ("insert_item", ("e", 1, 1)), ("insert_item", ("l", 99, at("zz"))), ("drop_member", ("s", 2)), ("drop_member", ("s", "1")),
                           ("drop_member", ("f", at("e"))), ("drop_member", ("s", at("zz"))), ("drop_entry", ("d", 2)), ("drop_entry", ("d", "one")),
                           ("drop_entry", ("d", at("d"))), ("drop_entry", ("d", at("zz"))), ("drop_entry", ("d", ""))):
            self.assert_refused(NoPlace, "index", 0, word, *args)

    def test_too_many_parts(self):
        numbers = tuple(range(30))
        names = ["".join(pair) for pair in zip("abcdefghijklmnopqrstuvwxyzabcd", "a" * 26 + "b" * 4)]
        full = Graph("r", {"r": ("record", "top", tuple((name, at("l")) if name == "aa" else (name, at("s")) if name == "ba" else
                                                        (name, at("d")) if name == "ca" else (name, 0) for name in names)),
                           "l": ("list", numbers), "s": ("set", numbers), "d": ("dict", tuple((number, 0) for number in numbers))})
        for word, args in (("set_field", ("r", "zz", 1)), ("insert_item", ("l", 30, 1)), ("insert_item", ("l", 0, 1)), ("add_member", ("s", 30)),
                           ("add_member", ("s", at("r"))), ("set_entry", ("d", 30, 1)), ("set_entry", ("d", at("zz"), at("zz"))),
                           ("add_member", ("s", at("zz"))), ("set_field", ("r", "zz", at("zz")))):
            self.assert_refused(LimitExceeded, "number", 31, word, *args, start=full)
        self.assert_refused(NoPlace, "index", 0, "insert_item", "l", 31, 1, start=full)
        for word, args in (("set_field", ("r", "da", 1)), ("set_item", ("l", 29, 1)), ("add_member", ("s", 29)), ("set_entry", ("d", 29, 1))):
            editor = Editor(full)
            call(editor, word)(*args)
            self.assertEqual(len(editor), 1)
        for word, args in (("drop_field", ("r", "da")), ("drop_item", ("l", 29)), ("drop_member", ("s", 29)), ("drop_entry", ("d", 29))):
            editor = Editor(full)
            call(editor, word)(*args)
            again = {"drop_field": "set_field", "drop_item": "insert_item", "drop_member": "add_member", "drop_entry": "set_entry"}[word]
            call(editor, again)(*args, *((3,) if again != "add_member" else ()))
            self.assertEqual(len(editor.graph[args[0]][-1]), 30)

    def test_too_many_objects(self):
        full = chain_graph(60)
        more = (None, {"a59": ("list", (at("b"),)), "b": ("list", ())})
        self.assert_refused(LimitExceeded, "number", 61, "carry_out", more, start=full)
        self.assert_refused(LimitExceeded, "number", 62, "carry_out", ("c", {"c": ("set", (at("a0"),)), **more[1]}), start=full)
        editor = Editor(full)
        editor.set_item("a0", 0, at("a2"))
        editor.carry_out(more)
        self.assertEqual(len(editor.graph), 60)

    def test_missing_objects(self):
        for word, args in (("set_field", ("r", "n", at("zz"))), ("set_field", ("r", "new", at("zz"))), ("set_item", ("l", 0, at("zz"))), ("insert_item", ("l", 3, at("zz"))),
                           ("add_member", ("s", at("zz"))), ("set_entry", ("d", 1, at("zz"))), ("set_entry", ("d", at("zz"), 1)),
                           ("set_entry", ("d", at("zz"), at("zzz"))), ("set_entry", ("d", at("zzz"), at("zz")))):
            self.assert_refused(MissingObject, "mark", "zz", word, *args)

    def test_wrong_changes(self):
        for value in [value for value in STRANGE] + [(None, []), (1, {}), ("A", {}), (None, {"A": ("list", ())}), (None, {"a": ("list", (True,))}), (None, {"a": None}),
                                                     ("r", {}, {}), (None,), ["r", {}], ("r", {1: ("list", ())}), (None, {"l": ("list", tuple(range(31)))})]:
            self.assert_refused(BadChange, "value", value, "carry_out", value)
        self.assert_refused(MissingObject, "mark", "zz", "carry_out", ("zz", {}))
        self.assert_refused(MissingObject, "mark", "b", "carry_out", (None, {"l": ("list", (at("c"), at("b")))}))
        self.assert_refused(MissingObject, "mark", "b", "carry_out", (None, {"l": ("list", (at("a"),)), "a": ("set", (at("z"), at("b")))}))


class Other(BaseException):
    """An error that no program raises on its own."""


class TestWith(Case):

    def setUp(self):
        self.editor = Editor(GRAPH)
        self.editor.add_member("s", 5)
        self.before = told(self.editor)

    def test_its_value(self):
        with self.editor as held:
            self.assertIs(held, self.editor)
        self.assertEqual(told(self.editor), self.before)

    def test_without_an_error(self):
        with self.editor:
            self.editor.add_member("s", 6)
            self.editor.drop_field("r", "l")
        self.assertEqual(len(self.editor), 3)
        self.assertNotIn("l", self.editor.graph)
        self.editor.undo()
        self.editor.undo()
        self.assertEqual(told(self.editor), self.before)

    def assert_back(self, error, steps):
        with self.assertRaises(error) as caught:
            with self.editor:
                steps(self.editor)
        self.assertIs(caught.exception.__class__, error)
        self.assertEqual(told(self.editor), self.before)
        self.assertEqual(self.editor.graph["s"], ("set", (1, 5, "x", at("e"), at("f"))))
        return caught.exception

    def test_with_an_error_of_a_step(self):
        def steps(editor):
            editor.drop_field("r", "l")
            editor.drop_member("s", 5)
            editor.drop_item("l", 0)
        self.assertEqual(self.assert_back(UnknownMark, steps).value, "l")
        self.assertEqual(self.assert_back(NoPlace, lambda editor: editor.drop_member("s", 99)).index, 0)

    def test_with_any_other_error(self):
        raised = [ValueError("x"), Other(), KeyboardInterrupt(), StopIteration(), BadValue(5), Exception()]
        for error in raised:
            def steps(editor):
                editor.set_field("r", "n", at("r"))
                editor.carry_out(("e", {}))
                raise error
            self.assertIs(self.assert_back(error.__class__, steps), error)

    def test_undoing_more_than_was_made_in_it(self):
        def steps(editor):
            editor.undo()
            editor.add_member("s", 7)
            editor.add_member("s", 8)
            editor.undo()
            editor.undo()
            editor.undo()
        self.assert_back(NothingToUndo, steps)
        self.editor.undo()
        self.assertEqual((self.editor.graph, len(self.editor)), (GRAPH, 0))

    def test_one_behind_another(self):
        with self.editor:
            self.editor.add_member("s", 6)
        self.before = told(self.editor)
        with self.assertRaises(ValueError):
            with self.editor:
                self.editor.undo()
                self.editor.undo()
                raise ValueError()
        self.assertEqual(told(self.editor), self.before)
        self.editor.add_member("s", 7)
        self.assertEqual(len(self.editor), 3)

    def test_leaving_it_early(self):
        def leave(editor):
            with editor:
                editor.add_member("s", 6)
                return editor.text
        self.assertEqual(leave(self.editor), self.editor.text)
        self.assertEqual(len(self.editor), 2)


class TestConventions(Case):

    def test_names_of_arguments(self):
        for word, arguments in STEPS.items():
            one, other = Editor(graph=GRAPH), Editor(GRAPH)
            right = {name: value for name, value, _ in arguments}
            call(one, word)(**dict(reversed(right.items())))
            call(other, word)(*right.values())
            self.assertEqual((told(one), len(one)), (told(other), 1))
        editor = Editor(GRAPH)
        editor.carry_out(change=CHANGE)
        self.assertEqual(editor.graph, GRAPH + CHANGE)

    def test_what_was_given_and_returned_may_change(self):
        change = (None, {"l": ("list", ()), "r": RECORD})
        editor = Editor(GRAPH)
        editor.carry_out(change)
        before = told(editor)
        change[1]["r"] = None
        del change[1]["l"]
        editor.graph.objects.clear()
        editor.graph.marks.clear()
        self.assertEqual(told(editor), before)
        editor.undo()
        self.assertEqual(editor.graph, GRAPH)

    def test_the_first_graph_stays_what_it_is(self):
        graph = Graph("r", THINGS)
        editor, other = Editor(graph), Editor(graph)
        editor.drop_field("r", "l")
        self.assertEqual((graph, other.graph, len(other)), (GRAPH, GRAPH, 0))
        self.assertIs(editor == other, False)
        self.assertIs(other == graph, False)
