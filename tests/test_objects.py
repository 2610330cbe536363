"""Objects, their parts and their places (5, 6)."""

from samebytes.errors import BadMap, BadObject
from samebytes.objects import is_object, ordered, places, references, replaced
from tests.helpers import HUGE, NO_DICTS, NO_TUPLES, STRANGE, Case, at

LETTERS = "abcdefghijklmnopqrstuvwxyz"
NAMES = [first + second for first in "ab" for second in LETTERS]

# Objects of each kind with a number of parts.
MADE = {
    "record": lambda number: ("record", "pair", tuple([(name, 1) for name in NAMES[:number]])),
    "list": lambda number: ("list", (1,) * number),
    "set": lambda number: ("set", tuple(range(number))),
    "dict": lambda number: ("dict", tuple([(key, 1) for key in range(number)])),
}

RIGHT = [
    ("record", "pair", (("left", 1), ("right", 1))), ("record", "a", (("a", "a"), ("b", at("a")))),
    ("record", "record", (("at", ""),)), ("list", (1, 1, "a", "a", at("b"), at("b"), "", -1)), ("list", (at("list"),)),
    ("set", (1, -1, "1", "at", at("at"), at("a"), "a", "")), ("dict", ((1, 2), (2, 2), ("1", 2), (at("a"), 2))),
    ("dict", (("a", at("b")), (at("a"), at("a")), (at("b"), at("a")), ("", ""))),
]

WRONG = [
    "", "list", 0, 1, HUGE, (), ("list",), ("set",), ("dict",), ("record",), ("record", "pair"), ("record", ()),
    ("record", "pair", (), ()), ("list", (), ()), ("list", "a", ()), ("set", "a", ()), ("dict", "a", ()),
    ("List", ()), ("tuple", ()), ("", ()), ("lis", ()), ("records", "pair", ()), ("other", "pair", ()),
    (b"list", ()), (None, ()), (["list"], ()), (("list",), ()), (1, ()), ["list", ()], {"list": ()},
    # names of records
    ("record", "", ()), ("record", "Pair", ()), ("record", "pair1", ()), ("record", "abcdefghi", ()),
    ("record", 1, ()), ("record", None, ()), ("record", True, ()), ("record", ["a"], ()),
    # parts that are no tuple
    ("list", []), ("set", []), ("dict", []), ("dict", {}), ("dict", {1: 2}), ("record", "pair", []),
    ("record", "pair", {}), ("record", "pair", {"a": 1}), ("list", None), ("list", "ab"), ("list", range(2)),
    ("set", set()), ("set", {1}), ("set", frozenset()), ("list", 0), ("record", "pair", None), ("dict", None),
    # fields and entries that are none
    ("record", "pair", ("ab",)), ("record", "pair", (["a", 1],)), ("record", "pair", (("a",),)),
    ("record", "pair", (("a", 1, 2),)), ("record", "pair", ((),)), ("record", "pair", (None,)),
    ("record", "pair", ((1, 1),)), ("record", "pair", (("a1", 1),)), ("record", "pair", (("", 1),)),
    ("record", "pair", (("A", 1),)), ("record", "pair", ((at("a"), 1),)), ("record", "pair", (("abcdefghi", 1),)),
    ("record", "pair", ((["a"], 1),)), ("record", "pair", ((True, 1),)), ("record", "pair", ("a", 1)),
    ("dict", ("ab",)), ("dict", (["a", 1],)), ("dict", (("a",),)), ("dict", (("a", 1, 2),)), ("dict", ((),)),
    ("dict", (None,)), ("dict", ("a", 1)), ("dict", (({}, 1),)), ("dict", (([], 1),)), ("dict", ((True, 1),)),
    ("dict", (("A", 1),)), ("dict", ((at("A"), 1),)),
    # one wrong part behind right ones
    ("list", (1, 2, None)), ("set", (1, 2, [])), ("dict", ((1, 2), (2, None))), ("dict", ((1, 2), (None, 2))),
    ("record", "pair", (("a", 1), ("b", {}))), ("list", (("list", ()),)), ("set", ((),)),
    # the same twice
    ("set", (1, 1)), ("set", ("a", 1, "a")), ("set", (at("b"), 2, at("b"))), ("set", ("", "")),
    ("dict", ((1, 2), (1, 3))), ("dict", ((1, 2), (1, 2))), ("dict", (("a", 2), ("b", 2), ("a", 3))),
    ("dict", ((at("a"), 1), (at("a"), 2))), ("record", "pair", (("a", 1), ("a", 2))),
    ("record", "pair", (("a", 1), ("b", 1), ("a", 1))),
]

# The ascending order of worths: integers, texts, references.
ASCENDING = (-10 ** 29, -10, -9, 0, 2, 10, 10 ** 29, "", "0", "10", "2", "9", "a", "a0", "aa", "at", "b", "z",
             at("a"), at("a10"), at("a2"), at("aa"), at("b"), at("z9"))


def mixed(parts):
    """Three other orders of some parts."""
    return [tuple(parts[::-1]), tuple(parts[1::2] + parts[::2]), tuple(parts[7:] + parts[:7])]


class TestIsObject(Case):

    def test_right_ones(self):
        for value in RIGHT:
            with self.subTest(value=value):
                self.assertIs(is_object(value), True)

    def test_numbers_of_parts(self):
        for kind, made in MADE.items():
            for number, wanted in ((0, True), (1, True), (29, True), (30, True), (31, False), (40, False)):
                with self.subTest(kind, number=number):
                    self.assertIs(is_object(made(number)), wanted)

    def test_wrong_ones(self):
        for value in WRONG:
            with self.subTest(value=value):
                self.assertIs(is_object(value), False)

    def test_strange_values(self):
        for value in STRANGE:
            with self.subTest(value.__class__.__name__):
                self.assertIs(is_object(value), False)

    def test_strange_worths(self):
        for value in STRANGE:
            for thing in (("list", (value,)), ("list", (1, value)), ("set", (value,)), ("set", (1, value)),
                          ("dict", ((value, 1),)), ("dict", ((1, value),)), ("record", "pair", (("a", value),)),
                          ("record", "pair", ((value, 1),)), ("record", value, ()), (value, ()), (value, "pair", ())):
                with self.subTest(value.__class__.__name__):
                    self.assertIs(is_object(thing), False)
        for value in NO_TUPLES:
            for thing in (("list", value), ("set", value), ("dict", value), ("record", "pair", value)):
                with self.subTest(value.__class__.__name__):
                    self.assertIs(is_object(thing), False)

    def test_true_and_false_are_no_integers(self):
        for thing in (("list", (True,)), ("list", (False,)), ("set", (True,)), ("set", (0, False)), ("set", (1, True)),
                      ("dict", ((True, 1),)), ("dict", ((1, False),)), ("record", "pair", (("a", True),))):
            with self.subTest(thing=thing):
                self.assertIs(is_object(thing), False)

    def test_by_name(self):
        self.assertIs(is_object(value=("list", ())), True)


class TestOrdered(Case):

    def test_records(self):
        for fields in mixed([("a", 3), ("aa", at("b")), ("ab", 2), ("b", ""), ("right", 1), ("s", 5), ("t", 4),
                             ("z", 0)]):
            told = ordered(("record", "pair", fields))
            self.assert_exactly(told, ("record", "pair", (("a", 3), ("aa", at("b")), ("ab", 2), ("b", ""),
                                                          ("right", 1), ("s", 5), ("t", 4), ("z", 0))))

    def test_lists_stay(self):
        for items in mixed(ASCENDING):
            self.assert_exactly(ordered(("list", items)), ("list", items))

    def test_sets(self):
        for members in mixed(ASCENDING):
            self.assert_exactly(ordered(("set", members)), ("set", ASCENDING))

    def test_dicts(self):
        entries = tuple(zip(ASCENDING, ASCENDING[::-1]))
        for some in mixed(entries):
            self.assert_exactly(ordered(("dict", some)), ("dict", entries))

    def test_empty_ones(self):
        for thing in (("record", "pair", ()), ("list", ()), ("set", ()), ("dict", ())):
            self.assert_exactly(ordered(thing), thing)

    def test_by_name(self):
        self.assert_exactly(ordered(thing=("set", (2, 1))), ("set", (1, 2)))


class TestReferences(Case):

    def test_where_they_stand(self):
        self.assert_exactly(references(("record", "pair", (("b", at("z")), ("a", at("y")), ("c", 1)))), ["y", "z"])
        self.assert_exactly(references(("list", (at("b"), 1, at("a"), "c", at("a10"), at("a2")))),
                            ["a", "a10", "a2", "b"])
        self.assert_exactly(references(("set", (at("b"), at("a"), 1, "x"))), ["a", "b"])
        self.assert_exactly(references(("dict", ((at("d"), at("c")), (at("b"), 1), (2, at("a"))))),
                            ["a", "b", "c", "d"])

    def test_each_once(self):
        self.assert_exactly(references(("record", "pair", (("b", at("z")), ("a", at("z"))))), ["z"])
        self.assert_exactly(references(("list", (at("b"), at("a"), at("b")))), ["a", "b"])
        self.assert_exactly(references(("dict", ((at("b"), at("b")), (at("a"), at("b"))))), ["a", "b"])

    def test_none(self):
        for thing in (("record", "at", (("at", "b"),)), ("list", ("at", "b")), ("set", ()), ("dict", (("at", "b"),))):
            self.assert_exactly(references(thing), [])

    def test_the_list_is_new(self):
        thing = ("list", (at("b"),))
        references(thing=thing).append("c")
        self.assert_exactly(references(thing), ["b"])


class TestPlaces(Case):

    def test_records(self):
        told = places(("record", "pair", (("right", 5), ("left", at("b")))))
        self.assert_exactly(told, [(("field", "left"), at("b")), (("field", "right"), 5)])

    def test_lists(self):
        told = places(("list", ("b", 5, at("a"), 5)))
        self.assert_exactly(told, [(("item", 0), "b"), (("item", 1), 5), (("item", 2), at("a")), (("item", 3), 5)])

    def test_sets(self):
        told = places(("set", (at("a"), "b", 5)))
        self.assert_exactly(told, [(("member", 5), 5), (("member", "b"), "b"), (("member", at("a")), at("a"))])

    def test_dicts(self):
        told = places(("dict", ((at("a"), 1), ("b", at("c")), (5, "x"))))
        self.assert_exactly(told, [(("key", 5), "x"), (("key", "b"), at("c")), (("key", at("a")), 1)])

    def test_order(self):
        self.assertEqual([worth for _, worth in places(("set", ASCENDING[::-1]))], list(ASCENDING))
        keys = [place for place, _ in places(("dict", tuple([(key, 1) for key in ASCENDING[::-1]])))]
        self.assertEqual(keys, [("key", key) for key in ASCENDING])

    def test_empty_ones(self):
        for thing in (("record", "pair", ()), ("list", ()), ("set", ()), ("dict", ())):
            self.assert_exactly(places(thing), [])

    def test_the_list_is_new(self):
        thing = ("list", (1,))
        places(thing=thing).clear()
        self.assert_exactly(places(thing), [(("item", 0), 1)])


class TestReplaced(Case):

    def test_where_they_stand(self):
        marks = {"a": "z", "b": "y", "c": "x"}
        for thing, wanted in (
                (("record", "pair", (("b", at("b")), ("a", at("a")), ("c", "a"))),
                 ("record", "pair", (("a", at("z")), ("b", at("y")), ("c", "a")))),
                (("list", (at("a"), "b", at("c"), at("a"), 1)), ("list", (at("z"), "b", at("x"), at("z"), 1))),
                (("set", (at("a"), at("b"), "c", 1)), ("set", (1, "c", at("y"), at("z")))),
                (("dict", ((at("a"), at("b")), (at("b"), 1), ("a", at("a")))),
                 ("dict", (("a", at("z")), (at("y"), 1), (at("z"), at("y"))))),
                (("set", (3, 2, 1)), ("set", (1, 2, 3)))):
            with self.subTest(thing=thing):
                self.assert_exactly(replaced(thing, marks), wanted)

    def test_marks_may_be_exchanged(self):
        told = replaced(("dict", ((at("a"), at("b")), (at("b"), at("c")))), {"a": "b", "b": "a", "c": "c"})
        self.assert_exactly(told, ("dict", ((at("a"), at("c")), (at("b"), at("a")))))

    def test_no_references(self):
        self.assert_exactly(replaced(("list", ("a", 1)), {}), ("list", ("a", 1)))
        self.assert_exactly(replaced(("list", ()), {"a": "b"}), ("list", ()))

    def test_other_marks_may_be_taken_to_one(self):
        marks = {"a": "z", "b": "y", "c": "z", "d": "z"}
        self.assert_exactly(replaced(("list", (at("a"), at("b"))), marks), ("list", (at("z"), at("y"))))

    def test_two_references_to_one(self):
        for thing in (("list", (at("a"), at("b"))), ("set", (at("a"), at("b"))), ("dict", ((at("a"), at("b")),)),
                      ("record", "pair", (("a", at("a")), ("b", at("b"))))):
            marks = {"a": "z", "b": "z"}
            self.assert_error(BadMap, "value", marks, replaced, thing, marks)

    def test_a_reference_lacks(self):
        for marks in ({}, {"a": "z"}, {"b": "a"}):
            self.assert_error(BadMap, "value", marks, replaced, ("list", (at("a"), at("b"))), marks)
        for thing in (("set", (1, at("b"))), ("dict", ((at("b"), 1),)), ("dict", ((1, at("b")),))):
            marks = {"a": "z"}
            self.assert_error(BadMap, "value", marks, replaced, thing, marks)

    def test_no_dict_of_marks(self):
        for value in NO_DICTS:
            self.assert_error(BadMap, "value", value, replaced, ("list", ()), value)
        for value in STRANGE:
            marks = {"a": "b", "b": value}
            self.assert_error(BadMap, "value", marks, replaced, ("list", (at("a"),)), marks)
        for key in (1, True, None, "A", "1a", "", "abcdefghi", ("at", "a"), at("a"), b"a"):
            marks = {"a": "b", key: "c"}
            self.assert_error(BadMap, "value", marks, replaced, ("list", (at("a"),)), marks)

    def test_nothing_that_is_given_changes(self):
        marks = {"b": "a", "a": "b"}
        replaced(marks=marks, thing=("list", (at("a"), at("b"))))
        self.assertEqual(list(marks.items()), [("b", "a"), ("a", "b")])


class TestBadObject(Case):

    def test_each_function(self):
        for value in WRONG + STRANGE + [MADE[kind](31) for kind in MADE]:
            for function in (ordered, references, places):
                self.assert_error(BadObject, "value", value, function, value)
            self.assert_error(BadObject, "value", value, replaced, value, {"a": "b", "b": "a"})
            self.assert_error(BadObject, "value", value, replaced, value, None)
