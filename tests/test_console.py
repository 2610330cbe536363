"""The console: each command with its answer, and all that is no command (20)."""

import re

from samebytes.console import Console
from samebytes.errors import BadCommand, BadText, BadValue, Clash, GraphError, LimitExceeded, MissingObject, NoPlace, UnknownVersion, Unreachable
from samebytes.forms import one_text
from samebytes.graphs import Graph
from samebytes.pieces import pieces
from samebytes.symmetries import symmetries
from samebytes.texts import read, write
from samebytes.versions import History
from tests import oracle
from tests.helpers import STRANGE, Case, at, twins
from tests.test_versions import told

FIRST = "root a; a = record pair (l: @b, r: @c, n: -5); b = list ['x', 7, @c]; c = dict {1: 'one', '1': @b, '': 0, @b: 3, -2: @c, 'ab9': 2}"
NEW = f"new {FIRST}"
WANT_PRESENT = ["merge 0", "text", "one", "same 0", "symmetries", "pieces", "worth n"]


def console_of(*lines):
    console = Console()
    for line in lines:
        console.execute(line)
    return console


class ConsoleCase(Case):

    def assert_answer(self, console, line, answer):
        self.assert_exactly(console.execute(line), answer)

    def assert_refused(self, console, error, field, value, line):
        """Assert an error, and that nothing has changed behind it."""
        before = told(console.history)
        present = self.present_of(console)
        self.assert_error(error, field, value, console.execute, line)
        self.assertEqual((told(console.history), self.present_of(console)), (before, present))

    def present_of(self, console):
        """The text of the present version, or None."""
        try:
            return console.execute("text")
        except BadCommand:
            return None


class TestCommands(ConsoleCase):

    def test_at_first(self):
        console = Console()
        self.assertIs(console.history.__class__, History)
        self.assert_exactly((len(console.history), console.history.branches), (0, {}))
        self.assertIs(console.history, console.history)
        self.assertIsNot(Console().history, console.history)
        for line in WANT_PRESENT:
            self.assert_refused(console, BadCommand, "line", line, line)
        self.assert_refused(console, UnknownVersion, "number", 0, "at 0")

    def test_new(self):
        console = Console()
        self.assert_answer(console, NEW, "0")
        self.assertEqual((console.history[0], console.history.parents(0)), (read(FIRST.replace(";", "\n")), ()))
        self.assert_answer(console, "new root b;b=set{}", "1")
        self.assert_answer(console, "new   ;;b=  set{ 'a' } ; ;  root   b ;", "2")
        self.assert_exactly([console.history.parents(number) for number in range(3)], [(), (0,), (1,)])
        self.assertEqual(console.history[2], Graph("b", {"b": ("set", ("a",))}))
        self.assert_answer(console, "text", "root b; b = set {'a'}")
        console.execute("at 0")
        self.assert_answer(console, "new root q; q = list []", "3")
        self.assert_exactly(console.history.parents(3), (0,))

    def test_at(self):
        console = console_of(NEW, "new root b; b = set {}")
        for number in (0, 1, 0, 0, 1):
            self.assert_answer(console, f"at {number}", str(number))
            self.assert_answer(console, "text", write(console.history[number]).replace("\n", "; "))
        self.assertEqual(len(console.history), 2)
        self.assert_refused(console, UnknownVersion, "number", 2, "at 2")
        self.assert_refused(console, UnknownVersion, "number", 10 ** 29, f"at {10 ** 29}")

    def test_merge(self):
        console = console_of("new root a; a = set {1}", "new root a; a = set {1, 2}", "at 0", "new root a; a = set {3}")
        self.assert_answer(console, "merge 1", "3")
        self.assertEqual((console.history[3]["a"], console.history.parents(3)), (("set", (2, 3)), (2, 1)))
        self.assert_answer(console, "text", "root a; a = set {2, 3}")
        self.assert_answer(console, "merge 3", "4")
        self.assert_exactly((console.history.parents(4), len(console.history)), ((3,), 5))
        self.assert_answer(console, "merge 0", "5")
        self.assert_exactly(console.history.parents(5), (4, 0))

    def test_errors_of_merge(self):
        console = console_of("new root a; a = list []", "new root a; a = list [1]", "at 0", "new root a; a = list [2]")
        self.assert_refused(console, UnknownVersion, "number", 3, "merge 3")
        before = told(console.history)
        with self.assertRaises(GraphError) as caught:
            console.execute("merge 1")
        self.assertIs(caught.exception.__class__, Clash)
        self.assert_exactly(caught.exception.clashes, [("a", ("items",))])
        self.assertEqual(told(console.history), before)
        self.assert_answer(console, "text", "root a; a = list [2]")
        console.history.commit(Graph("a", {"a": ("list", ())}))
        self.assert_refused(console, BadValue, "value", 3, "merge 3")
        parts = [", ".join(map(str, told_parts)) for told_parts in ((), range(20), range(20, 40))]
        console = console_of(f"new root a; a = set {{{parts[0]}}}", f"new root a; a = set {{{parts[1]}}}", "at 0", f"new root a; a = set {{{parts[2]}}}")
        self.assert_refused(console, LimitExceeded, "number", 40, "merge 1")

    def test_texts(self):
        console = console_of(NEW)
        self.assert_answer(console, "text", "root a; a = record pair (l: @b, n: -5, r: @c); b = list ['x', 7, @c]; "
                                            "c = dict {-2: @c, 1: 'one', '': 0, '1': @b, 'ab9': 2, @b: 3}")
        self.assert_answer(console, "one", one_text(console.history[0]).replace("\n", "; "))
        console.execute("new root z; z = list [@y, @y]; y = set {}")
        self.assert_answer(console, "one", "root x0; x0 = list [@x1, @x1]; x1 = set {}")
        self.assert_answer(console, "text", "root z; y = set {}; z = list [@y, @y]")

    def test_same(self):
        console = console_of("new root a; a = set {@b, @c}; b = list []; c = list []", "new root z; z = set {@y, @x}; x = list []; y = list []",
                             "new root z; z = set {@y, @x}; x = list []; y = list [1]")
        for present, answers in ((0, ("same", "same", "different")), (1, ("same", "same", "different")), (2, ("different", "different", "same"))):
            console.execute(f"at {present}")
            for number, answer in enumerate(answers):
                self.assert_answer(console, f"same {number}", answer)
        self.assert_refused(console, UnknownVersion, "number", 3, "same 3")
        self.assertEqual(len(console.history), 3)

    def test_symmetries_and_pieces(self):
        console = console_of("new root a; a = set {@b, @c, @d}; b = list []; c = list []; d = list []")
        self.assert_answer(console, "symmetries", "6")
        self.assert_answer(console, "pieces", "b c d a")
        console.execute("new root a; a = list [@b, @d]; b = list [@c]; c = set {@b, @d}; d = list []")
        self.assert_answer(console, "pieces", "d b,c a")
        self.assert_answer(console, "symmetries", "1")
        console.execute("new " + write(twins(30)).replace("\n", ";"))
        self.assert_answer(console, "symmetries", "265252859812191058636308480000000")

    def test_worths(self):
        console = console_of(NEW)
        for path, answer in (("n", "-5"), ("l", "@b"), ("r", "@c"), ("l/0", "'x'"), ("l/1", "7"), ("l/2", "@c"), ("l/2/1", "'one'"), ("r/1", "'one'"), ("r/-2", "@c"),
                             ("r/-2/-2/1", "'one'"), ("r/ab9", "2"), ("l/2/-2/-2/ab9", "2")):
            self.assert_answer(console, f"worth {path}", answer)
        console.execute("new root a; a = dict {'01': @b, 'n': '', '00': 5, '0a': '9', 0: 1, '12345678901234567890': 6}; b = list [-7, '']")
        for path, answer in (("01", "@b"), ("01/0", "-7"), ("01/1", "''"), ("n", "''"), ("00", "5"), ("0a", "'9'"), ("0", "1")):
            self.assert_answer(console, f"worth {path}", answer)

    def test_errors_of_worth(self):
        console = console_of(NEW)
        for path, index in (("x", 0), ("0", 0), ("a", 0), ("n/0", 1), ("l/3", 1), ("l/-1", 1), ("l/x", 1), ("l/00", 1), ("l/2/2", 2), ("l/2/01", 2), ("l/0/0", 2), ("r/1/1", 2), ("r/b", 1),
                            ("abcdefghijklmnopqrstuvwxyz0123456789", 0), ("r/-3/5", 1), ("nn", 0)):
            self.assert_refused(console, NoPlace, "index", index, f"worth {path}")
        console.execute("new root a; a = set {1, 'x', 0}")
        for path in ("1", "x", "0"):
            self.assert_refused(console, NoPlace, "index", 0, f"worth {path}")

    def test_errors_of_texts(self):
        for console in (Console(), console_of(NEW)):
            for text, error, field, value in (("root a; a = set {", BadText, "line", 1), ("a = set {}", BadText, "line", None), (" ", BadText, "line", None), (";", BadText, "line", None),
                                              ("root a; a = set {}; a = set {}", BadText, "line", 2), ("x", BadText, "line", 0), ("root a", MissingObject, "mark", "a"),
                                              ("root a;; A = set {}", BadText, "line", 2), ("root a; a = list [@b]", MissingObject, "mark", "b"),
                                              ("root a; a = list []; b = set {}", Unreachable, "mark", "b"), ("root a; a = set {1, 1}", BadText, "line", 1),
                                              ("root a; a = list []: b", BadText, "line", 1), ("root a; a = list ['\u00e9']", BadText, "line", 1)):
                self.assert_refused(console, error, field, value, f"new {text}")
            many = "; ".join([f"a{index} = list [{f'@a{index + 1}' if index < 60 else ''}]" for index in range(61)])
            self.assert_refused(console, LimitExceeded, "number", 61, f"new root a0; {many}")


class TestForms(ConsoleCase):

    def test_what_is_no_command(self):
        numbers = ["", "00", "01", "007", "-0", "-1", "+1", "1.0", "1 ", " 1", "a", "x0", "0x0", "1_0", "\u0661", "\u00b2", "0 0", "0,1", "'0'", "0\n", "\n0", "0;", "None", "--1", "- 1", "1e1", "@a"]
        paths = ["", "/", "n/", "/n", "l//0", "N", "l/A", "l/-0", "l/-01", "l/+1", "-", "l/-", "l/--1", "l/1-", "l 0", " l", "l ", "l/ 0", "l /0", "@b", "'n'", "l/0.0", "\u00e9", "l/\u0661", "n\n",
                 "a_b", "l/-a", "l\\0", "l/1/", "l/@b", "a;b"]
        wrong = [f"{word} {number}" for word in ("at", "merge", "same") for number in numbers] + [f"worth {path}" for path in paths]
        wrong += [f"{word}{rest}" for word in ("text", "one", "symmetries", "pieces") for rest in (" ", "  ", " 0", " x", "\n", ";", "x", "/", "0")]
        wrong += [f"{word}  0" for word in ("at", "merge", "same", "worth")] + ["new", "new ", "at", "merge", "same", "worth", "new\troot a", "newroot a; a = set {}", "at0", "at\t0", "at\n0"]
        wrong += [line.upper() for line in WANT_PRESENT] + [line.capitalize() for line in WANT_PRESENT] + [f" {line}" for line in [NEW, "at 0", *WANT_PRESENT]]
        wrong += ["", " ", "\n", "0", "root a; a = set {}", "quit", "help", "worths n", "piece", "symmetry", "news root a", "New root a; a = set {}", "text;one", "text; one", "at 0; text", "x" * 5000]
        for console in (console_of(NEW, "new root b; b = set {}"), Console()):
            for line in wrong + [value for value in STRANGE if isinstance(value, str)]:
                with self.subTest(line):
                    self.assert_refused(console, BadCommand, "line", line, line)

    def test_what_is_no_text(self):
        for console in (console_of(NEW), Console()):
            for value in [value for value in STRANGE if not isinstance(value, str)] + [b"text", b"at 0", 0, ("text",), ["text"], {"text": ""}, console, console.history]:
                self.assert_refused(console, BadCommand, "line", value, value)

    def test_the_present_version_is_asked_for_behind_the_form(self):
        console = Console()
        for line in ("merge 00", "same -0", "worth ", "worth A", "text "):
            self.assert_refused(console, BadCommand, "line", line, line)
        self.assert_refused(console, UnknownVersion, "number", 7, "at 7")
        console.history.commit(Graph("a", {"a": ("list", ())}))
        # A version that did not come by a command is not the present one.
        for line in WANT_PRESENT:
            self.assert_refused(console, BadCommand, "line", line, line)
        self.assert_answer(console, "at 0", "0")
        self.assert_answer(console, "text", "root a; a = list []")

    def test_a_text_of_a_new_version_is_any_text(self):
        console = Console()
        self.assert_answer(console, "new  root a; a = set {}", "0")
        self.assert_answer(console, "new root a\na = set {}", "1")
        self.assert_answer(console, "new a = set {} ;root a; ", "2")


def plain_answer(history, present, line):
    """(answer or error, the present version behind it), by the words of (20)."""
    if line.startswith("new ") and len(line) > 4:
        graph = read(line[4:].replace(";", "\n"))
        return str(history.commit(graph, () if present is None else (present,))), len(history) - 1
    number = re.fullmatch("(at|merge|same) (0|[1-9][0-9]*)", line)
    path = re.fullmatch("worth ((?:0|-?[1-9][0-9]*|[a-z0-9]+)(?:/(?:0|-?[1-9][0-9]*|[a-z0-9]+))*)", line)
    if not (number or path or line in ("text", "one", "symmetries", "pieces")) or (present is None and line[:3] != "at "):
        raise BadCommand(line)
    if number and number[1] == "at":
        return (number[2], int(number[2])) if history.parents(int(number[2])) is not None else None
    if number and number[1] == "merge":
        told_number = history.merge(present, int(number[2]))
        return str(told_number), told_number
    graph = history[present]
    if number:
        return ("same" if one_text(history[int(number[2])]) == one_text(graph) else "different"), present
    if path:
        steps = tuple(int(step) if re.fullmatch("0|-?[1-9][0-9]*", step) else step for step in path[1].split("/"))
        worth = graph(steps)
        return (f"@{worth[1]}" if isinstance(worth, tuple) else f"'{worth}'" if isinstance(worth, str) else str(worth)), present
    answers = {"text": write(graph).replace("\n", "; "), "one": one_text(graph).replace("\n", "; "), "symmetries": str(symmetries(graph)[0]),
               "pieces": " ".join(",".join(piece) for piece in pieces(graph))}
    return answers[line], present


class TestAgainstAPlainSecondProgram(ConsoleCase):

    def test_any_commands(self):
        chance = oracle.chances(1)
        answered = refused = 0
        for _ in range(60):
            console, history, present = Console(), History(), None
            for _ in range(25):
                number = chance.randrange(max(len(history), 1) + 1)
                graph = oracle.random_graph(chance, 5)
                paths = ["left", "right", "0", "1", "left/0", "0/1", "x", "-1", "left/x", "0/0/0", "01", "left/", "-0"]
                line = chance.choice([f"new {write(graph)}".replace("\n", "; "), f"new {write(graph)}".replace("\n", ";")[:-1], f"at {number}", f"merge {number}", f"merge {number}",
                                      f"same {number}", "text", "one", "symmetries", "pieces", f"worth {chance.choice(paths)}", f"worth {chance.choice(paths)}", f"at 0{number}", "new "])
                try:
                    answer, present = plain_answer(history, present, line)
                    answered += 1
                    self.assert_answer(console, line, answer)
                except GraphError as error:
                    refused += 1
                    with self.assertRaises(GraphError) as caught:
                        console.execute(line)
                    self.assertIs(caught.exception.__class__, error.__class__)
                    self.assert_exactly(vars(caught.exception), vars(error))
                self.assertEqual(told(console.history), told(history))
        self.assertTrue(answered > 300 and refused > 300, (answered, refused))


class TestConventions(ConsoleCase):

    def test_names_of_arguments(self):
        self.assert_exactly(Console().execute(line=NEW), "0")

    def test_consoles_are_apart(self):
        one, other = console_of(NEW), Console()
        self.assertEqual((len(one.history), len(other.history)), (1, 0))
        self.assertIs(one == other, False)

    def test_what_the_history_returned_may_change(self):
        console = console_of(NEW)
        console.history.branches["a"] = 5
        console.history[0].objects.clear()
        self.assert_exactly((console.history.branches, len(console.history[0].objects)), ({}, 3))
        console.history.branch("a", 0)
        self.assert_exactly((console.history.branches, console.execute("at 0")), ({"a": 0}, "0"))

    def test_equal_answers(self):
        console = console_of(NEW, "new root a; a = set {@b, @c}; b = list []; c = list []")
        for line in ("text", "one", "symmetries", "pieces", "same 0", "at 1"):
            self.assertEqual(console.execute(line), console.execute(line))
