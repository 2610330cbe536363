"""The text of a graph (12): written and read."""

from samebytes.errors import BadArgument, BadText, LimitExceeded, MissingObject, Unreachable
from samebytes.graphs import Graph
from samebytes.texts import read, write
from tests import oracle
from tests.helpers import STRANGE, Case, at, chain, chain_graph

NINES = 10 ** 30 - 1


def lone(*thing):
    return Graph("a", {"a": thing})


class TestWritten(Case):

    def assert_written(self, graph, text):
        self.assert_exactly(write(graph), text)
        self.assertEqual(read(text), graph)

    def test_each_kind_empty(self):
        self.assert_written(lone("record", "pair", ()), "root a\na = record pair ()")
        self.assert_written(lone("list", ()), "root a\na = list []")
        self.assert_written(lone("set", ()), "root a\na = set {}")
        self.assert_written(lone("dict", ()), "root a\na = dict {}")

    def test_each_kind_with_one_part(self):
        self.assert_written(lone("record", "pair", (("left", 1),)), "root a\na = record pair (left: 1)")
        self.assert_written(lone("list", ("x",)), "root a\na = list ['x']")
        self.assert_written(lone("set", (at("a"),)), "root a\na = set {@a}")
        self.assert_written(lone("dict", ((1, at("a")),)), "root a\na = dict {1: @a}")

    def test_parts_in_order(self):
        parts = (at("a"), "b", 10, at("a0"), "", 9, "10", -1)
        told = "-1, 9, 10, '', '10', 'b', @a, @a0"
        graph = Graph("a", {"a": ("set", parts), "a0": ("list", parts)})
        self.assert_written(graph, f"root a\na = set {{{told}}}\na0 = list [@a, 'b', 10, @a0, '', 9, '10', -1]")
        self.assert_written(lone("record", "p", (("b", 1), ("a", at("a")), ("aa", "b"))),
                            "root a\na = record p (a: @a, aa: 'b', b: 1)")
        entries = (("k", 1), (at("a"), at("a")), (3, ""), (-3, "k"))
        self.assert_written(lone("dict", entries), "root a\na = dict {-3: 'k', 3: '', 'k': 1, @a: @a}")

    def test_lines_in_order_of_marks(self):
        things = {"x10": ("list", ()), "x2": ("list", (at("x10"), at("x1"))), "x1": ("set", ()), "x": ("set", ())}
        self.assert_written(Graph("x2", {**things, "x1": ("set", (at("x"),))}),
                            "root x2\nx = set {}\nx1 = set {@x}\nx10 = list []\nx2 = list [@x10, @x1]")

    def test_plain_values(self):
        for worth, told in ((0, "0"), (-1, "-1"), (NINES, "9" * 30), (-NINES, "-" + "9" * 30), (10 ** 29, "1" + "0" * 29),
                            ("", "''"), ("0", "'0'"), ("at", "'at'"), ("x" * 20, "'" + "x" * 20 + "'")):
            self.assert_written(lone("list", (worth,)), f"root a\na = list [{told}]")

    def test_words_as_marks_and_names(self):
        things = {"root": ("record", "record", (("list", at("list")), ("at", at("set")))), "list": ("list", ()),
                  "set": ("dict", (("set", at("root")),))}
        self.assert_written(Graph("root", things), "root root\nlist = list []\nroot = record record (at: @set, list: "
                                                   "@list)\nset = dict {'set': @root}")

    def test_the_greatest(self):
        self.assert_written(lone("list", tuple(range(30))), f"root a\na = list {list(range(30))}")
        self.assertEqual(read(write(chain_graph(60))), chain_graph(60))

    def test_wrong_arguments(self):
        for value in [*STRANGE, "root a\na = list []"]:
            self.assert_error(BadArgument, "value", value, write, value)

    def test_any_graph(self):
        chance = oracle.chances(12)
        for _ in range(200):
            graph = oracle.random_graph(chance, chance.randrange(1, 9))
            self.assertEqual(read(write(graph)), graph)
            lines = write(graph).split("\n")
            chance.shuffle(lines)
            self.assertEqual(read("\n".join(lines)), graph)


class TestRead(Case):

    def assert_read(self, text, thing):
        self.assertEqual(read(f"root a\na = {text}"), Graph("a", {"a": thing}))

    def test_any_order(self):
        graph = Graph("b", {"a": ("set", (1, 2)), "b": ("record", "p", (("x", at("a")), ("y", 2)))})
        for text in ("b = record p (y: 2, x: @a)\na = set {2, 1}\nroot b", "a = set {1, 2}\nroot b\nb = record p (x: @a, y: 2)",
                     "root b\nb = record p (y: 2, x: @a)\na = set {1, 2}"):
            self.assertEqual(read(text), graph)
        self.assert_read("dict {@a: 'x', 'k': 2, 1: @a}", ("dict", ((1, at("a")), ("k", 2), (at("a"), "x"))))

    def test_lines_of_spaces(self):
        self.assertEqual(read("\n  \n\nroot a\n \na = list []\n\n     "), lone("list", ()))
        self.assertEqual(read("a = list []\nroot a\n"), lone("list", ()))

    def test_spaces(self):
        wide = "  root   a  \n  a   =   record   pair   (  left  :  @  a  ,  right  :  -5  ,  up  :  'x'  )   "
        thing = ("record", "pair", (("left", at("a")), ("right", -5), ("up", "x")))
        self.assertEqual(read(wide), Graph("a", {"a": thing}))
        self.assertEqual(read("root a\na=record pair(left:@a,right:-5,up:'x')"), Graph("a", {"a": thing}))
        self.assert_read("  list  [  ]  ", ("list", ()))
        self.assert_read("list[1,'',@a]", ("list", (1, "", at("a"))))
        self.assert_read("list [ @ a ]", ("list", (at("a"),)))
        self.assert_read("set{ }", ("set", ()))
        self.assert_read("dict{1:2,'x':@a}", ("dict", ((1, 2), ("x", at("a")))))
        self.assert_read("dict  {  @ a  :  @  a  }", ("dict", ((at("a"), at("a")),)))
        self.assert_read("record p()", ("record", "p", ()))

    def test_integers(self):
        for told, worth in (("0", 0), ("10", 10), ("-10", -10), ("9" * 30, NINES), ("-" + "9" * 30, -NINES)):
            self.assert_read(f"list [{told}]", ("list", (worth,)))

    def test_no_text(self):
        for value in STRANGE:
            if not isinstance(value, str):
                self.assert_error(BadText, "line", None, read, value)

    def test_no_root(self):
        for text in ("", "\n", "   ", "a = list []", "a = list []\n\n"):
            self.assert_error(BadText, "line", None, read, text)

    def assert_wrong(self, *objects):
        """Assert that none of these can stand for an object, alone in its line."""
        for told in objects:
            with self.subTest(told):
                self.assert_error(BadText, "line", 1, read, f"root a\na = {told}")
                self.assert_error(BadText, "line", 4, read, f"\n \nroot b\nb = list [@a]\na = {told}\nroot b\n?")

    def test_wrong_signs(self):
        self.assert_wrong("", "list", "list [", "list ]", "list [}", "list [1", "list 1]", "list []]", "list [[]", "list [] []",
                          "list {}", "set []", "set ()", "dict []", "dict ()", "record p []", "record p {}", "record ()", "record p",
                          "list [,]", "list [1,]", "list [,1]", "list [1,,2]", "list [1 2]", "list [1;2]", "list [1:2]", "list (1)",
                          "set {1: 2}", "dict {1}", "dict {1:}", "dict {:1}", "dict {1:2:3}", "dict {1:2,}", "dict {,}", "dict {1:2 3}",
                          "record p (left)", "record p (left:)", "record p (:1)", "record p (left:1,)", "record p (,)",
                          "record p (left: 1: 2)", "record p (left 1)", "record p (@a: 1)", "record p ('left': 1)",
                          "record p (left x: 1)", "record p q ()", "record 'p' ()", "record @p ()", "record p1 ()", "record P ()",
                          "record p (left1: 1)", "record p (1: 1)", "record p (-left: 1)", "record abcdefghi ()", "recordp ()",
                          "record(p) ()", "tuple []", "lists []", "LIST []", "list list []", "= list []", "'list' []", "@list []",
                          "list [] x", "list [] = list []", "(list [])", "list\n[]", "bag {}", "root a", "@a", "1", "'x'")

    def test_wrong_integers(self):
        self.assert_wrong(*[f"list [{told}]" for told in (
            "-0", "00", "01", "-01", "-00", "- 5", "-  5", "5-", "--5", "+5", "-", "5-3", "-5-", "1_0", "0x1", "1e3", "1.0", "1.", "",
            "5 5", "- -5", "-'5'", "1" * 31, "-" + "1" * 31, "1" * 5000, "0" * 31, "1a", "a", "abc", "\u0661", "\uff11", "\u00b2")
            if told])

    def test_wrong_texts(self):
        self.assert_wrong(*[f"list [{told}]" for told in (
            "'", "'x", "x'", "'''", "' '", "' x'", "'x '", "'x y'", "'X'", "'x''y'", "'x' 'y'", "\"x\"", "'-'", "'-5'", "'@a'", "'\u00e9'",
            "'" + "x" * 21 + "'", "'a,b'", "','", "'x'y", "y'x'", "''x", "'\\n'", "'\u0661'", "`x`")])

    def test_wrong_references(self):
        self.assert_wrong(*[f"list [{told}]" for told in (
            "@", "@@a", "@ @a", "@1", "@1a", "@A", "@'a'", "@a b", "a@", "@a@a", "@abcdefghi", "@-a", "@a-", "@(a)", "at a", "@\u00e9", "@\ta")])

    def test_other_characters(self):
        for sign in ("\t", "\r", "\v", "\f", "\0", "\x1c", "\x1d", "\x1e", "\x1f", "\x85", "\u00a0", "\u2003", "\u2028", "\u2029",
                     "\u3000", "\ufeff", "\u200b", "#", ";", "_", ".", "\\", "\"", "A", "\u00e9", "\ud800"):
            for line in (f"a{sign}= list []", f"{sign}a = list []", f"a = list []{sign}", f"a = list{sign}[]", f"a = list [1,{sign}2]",
                         f"a = list [1{sign},2]", f"a = list [@{sign}a]", f"a = list ['{sign}']", sign, f" {sign} "):
                with self.subTest(line):
                    self.assert_error(BadText, "line", 1, read, f"root a\n{line}\nb = list []")

    def test_wrong_root_lines(self):
        for line in ("root", "roota", "root =", "root a b", "root 'a'", "root @a", "root 1", "root A", "root a =", "root: a", "root = a",
                     "Root a", "rootroot", "root a,", "a root", "root abcdefghi", "root -a", "root\ta", "a", "a =", "a = b", "= a"):
            with self.subTest(line):
                self.assert_error(BadText, "line", 0, read, f"{line}\na = list []")

    def test_wrong_signs_behind_a_mark(self):
        for line in ("a : list []", "a @ list []", "a a list []", "a , list []", "a 1 list []", "a == list []", "a 'a' list []", "a list []"):
            self.assert_error(BadText, "line", 1, read, f"root a\n{line}")

    def test_wrong_marks(self):
        for mark in ("1a", "A", "abcdefghi", "'a'", "@a", "a b", "a-", "-", "", "a,b", "(a)", "1", "\u00e9", "a'"):
            with self.subTest(mark):
                self.assert_error(BadText, "line", 1, read, f"root a\n{mark} = list []")

    def test_told_twice(self):
        self.assert_error(BadText, "line", 2, read, "root a\na = list []\na = list []")
        self.assert_error(BadText, "line", 1, read, "a = list []\n a=set {}\nroot a")
        self.assert_error(BadText, "line", 2, read, "root a\na = list []\nroot a")
        self.assert_error(BadText, "line", 1, read, "root a\nroot b\n?")
        self.assert_wrong("record p (x: 1, x: 1)", "record p (x: 1, y: 2, x: 3)", "set {1, 1}", "set {@a, 'x', @ a}", "set {'', ''}",
                          "dict {1: 1, 1: 2}", "dict {'x': 1, 'x': 1}", "dict {@a: 1, @a: 2}")
        self.assert_read("set {1, '1'}", ("set", (1, "1")))
        self.assert_read("list [1, 1, 'x', 'x', @a, @a]", ("list", (1, 1, "x", "x", at("a"), at("a"))))

    def test_thirty_parts(self):
        few, many = list(range(30)), list(range(31))
        names = [first + second for first in "abcdef" for second in "abcdef"]
        self.assert_read(f"list {few}", ("list", tuple(few)))
        self.assert_wrong(f"list {many}", f"list {[0] * 31}", "set {" + str(many)[1:-1] + "}",
                          "dict {" + ", ".join(f"{key}: 1" for key in many) + "}",
                          "record p (" + ", ".join(f"{name}: 1" for name in names[:31]) + ")")
        self.assertEqual(len(read("root a\na = record p (" + ",".join(f"{name}:1" for name in names[:30]) + ")")["a"][2]), 30)
        self.assertEqual(len(read("root a\na = dict {" + ",".join(f"{key}:1" for key in few) + "}")["a"][1]), 30)

    def test_the_first_wrong_line(self):
        self.assert_error(BadText, "line", 0, read, "?\n?\nroot a\nroot a")
        self.assert_error(BadText, "line", 2, read, "a = list []\n\na = list []\n?\nroot b")
        self.assert_error(BadText, "line", 1, read, "a = list [@z]\nb = tuple []")
        self.assert_error(BadText, "line", 3, read, "\n\n\nroot")
        self.assert_error(BadText, "line", 0, read, "?")

    def test_errors_of_graphs(self):
        self.assert_error(MissingObject, "mark", "b", read, "root b\na = list []")
        self.assert_error(MissingObject, "mark", "a", read, "root a")
        self.assert_error(MissingObject, "mark", "b", read, "root a\na = list [@c, @b]")
        self.assert_error(Unreachable, "mark", "b", read, "root a\na = list []\nc = list []\nb = list []")
        lines = [f"{mark} = list [" + ", ".join(f"@{worth[1]}" for worth in thing[1]) + "]" for mark, thing in chain(61).items()]
        self.assert_error(LimitExceeded, "number", 61, read, "\n".join([*lines, "root a0"]))
        self.assertEqual(len(read("\n".join(["root a0"] + [line for line in lines[:59]] + ["a59 = list []"]))), 60)

    def test_long_texts(self):
        self.assert_error(BadText, "line", 0, read, "[" * 50000)
        self.assert_error(BadText, "line", 0, read, "'" * 49999)
        self.assert_error(BadText, "line", 1, read, "root a\na = list [" + "9" * 40000 + "]")
        self.assert_error(BadText, "line", None, read, "\n" * 50000)
        self.assertEqual(read("root a\na =" + " " * 40000 + "list []"), lone("list", ()))
