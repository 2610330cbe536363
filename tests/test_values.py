"""Marks, names, plain values and worths (4)."""

from samebytes.objects import is_mark, is_name, is_plain, is_worth
from tests.helpers import HUGE, STRANGE, Case

LETTERS = "abcdefghijklmnopqrstuvwxyz"
DIGITS = "0123456789"
# Characters that lie beside the right ones, or that Python takes for letters, small letters or digits.
WRONG_SIGNS = ["A", "Z", "`", "{", "/", ":", "-", "+", "_", ".", " ", "\n", "\t", "\0", "@", "'", "\u00e9", "\u00df",
               "\u0430", "\u03b1", "\u00aa", "\uff41", "\uff11", "\u0661", "\u00b2", "\U0001d41a", "\ud800"]


class TestTexts(Case):

    def is_told(self, function, right, wrong):
        for value in right:
            with self.subTest(f"{function.__name__} right", value=value):
                self.assertIs(function(value), True)
        for value in wrong:
            with self.subTest(f"{function.__name__} wrong", value=value):
                self.assertIs(function(value), False)

    def test_marks(self):
        right = [*LETTERS, *[f"a{digit}" for digit in DIGITS], "abcdefgh", "a1234567", "x0y1"]
        wrong = ["", "abcdefghi", "a12345678", "a" * 50000, *DIGITS, "1a", "0", "-a", "+a", "aB", "Ab", "a ", " a",
                 "a\n", "a-b", 0, 1, -1, ("a",), ["a"]]
        self.is_told(is_mark, right, wrong)
        self.is_told(is_mark, [], [sign for sign in WRONG_SIGNS] + [f"a{sign}" for sign in WRONG_SIGNS])

    def test_names(self):
        right = [*LETTERS, "abcdefgh", "pair"]
        wrong = ["", "abcdefghi", *DIGITS, "a1", "1a", "abcdefg1", "A", "aB", "a ", " a", "a\n", "a_b", 0, 7, ("a",)]
        self.is_told(is_name, right, wrong)
        self.is_told(is_name, [], [sign for sign in WRONG_SIGNS] + [f"a{sign}" for sign in WRONG_SIGNS])

    def test_plain_texts(self):
        right = ["", *LETTERS, *DIGITS, "0123456789abcdefghij", "9" * 20, "007", "1a"]
        wrong = ["a" * 21, "9" * 21, "a" * 50000, "-1", "+1", "aB", "a b"]
        self.is_told(is_plain, right, wrong)
        self.is_told(is_worth, right, wrong)
        self.is_told(is_plain, [], [sign for sign in WRONG_SIGNS] + [f"a{sign}" for sign in WRONG_SIGNS])

    def test_integers(self):
        longest = 10 ** 30 - 1
        right = [0, 1, -1, 7, -5, 10 ** 29, -10 ** 29, longest, -longest]
        wrong = [longest + 1, -longest - 1, 10 ** 31, -10 ** 31, HUGE, -HUGE, 1.0, 0.0, -0.0, 1j, True, False]
        self.is_told(is_plain, right, wrong)
        self.is_told(is_worth, right, wrong)
        self.is_told(is_mark, [], right + wrong)
        self.is_told(is_name, [], right + wrong)

    def test_references(self):
        right = [("at", "a"), ("at", "at"), ("at", "a1234567")]
        wrong = [("at", ""), ("at", "1a"), ("at", "abcdefghi"), ("at", "A"), ("at", 1), ("at", True), ("at", None),
                 ("at", ("at", "a")), ("at", ["a"]), ("at",), ("a",), (), ("at", "a", "b"), ("at", "a", None),
                 ("to", "a"), ("At", "a"), ("a", "at"), ["at", "a"], ("at", b"a"), (b"at", "a"), (1, "a"), (None, "a"),
                 (["at"], "a"), {"at": "a"}, {0: "at", 1: "a"}]
        self.is_told(is_worth, right, wrong)
        self.is_told(is_plain, [], right + wrong)
        self.is_told(is_mark, [], right)
        self.is_told(is_name, [], right)

    def test_strange_values(self):
        for function in (is_mark, is_name, is_plain, is_worth):
            self.is_told(function, [], STRANGE)
            self.is_told(lambda value: function(value=value), ["a"], [None])
