"""Journals (19): writing, check numbers, recovering what was cut off or spoilt, and what damage leaves."""

from samebytes.errors import BadArgument, BadText
from samebytes.graphs import Graph
from samebytes.journals import check_sum, damage, journal, recover
from samebytes.texts import write
from samebytes.versions import History
from tests import oracle
from tests.helpers import STRANGE, Case, at
from tests.plain import check_of, plain_damage, plain_recover, signed
from tests.test_arguments import scribble
from tests.test_versions import ONE, graph_of, random_history, some_history, told

LONE = ["0 version - 2", "0 root a", "0 a = set {1}"]
TWO = [*LONE, "1 version 0 3", "1 root a", "1 a = list [@b, 'x']", "1 b = list []"]
THREE = [*TWO, "2 version 1,0 2", "2 root q", "2 q = dict {1: -5}"]
BRANCHED = [*THREE, "branch main 2", "branch old 0"]


def lines_of(history):
    """The lines of a journal by (19), without their check numbers."""
    lines = []
    for number in range(len(history)):
        text = write(history[number]).split("\n")
        parents = ",".join(str(parent) for parent in history.parents(number)) or "-"
        lines += [f"{number} version {parents} {len(text)}", *[f"{number} {line}" for line in text]]
    return lines + [f"branch {name} {number}" for name, number in sorted(history.branches.items())]


def told_by(versions, branches):
    """The history with these versions and branches."""
    history = History()
    for graph, parents in versions:
        history.commit(graph, parents)
    for name, number in branches.items():
        history.branch(name, number)
    return history


def histories():
    yield History()
    yield some_history()
    chance = oracle.chances(1)
    for number in (1, 3, 6, 12):
        history = random_history(chance, number)
        for name in ("main", "b", "abcdefgh")[:number // 2]:
            history.branch(name, chance.randrange(number))
        yield history


class JournalCase(Case):

    def assert_recovered(self, text):
        """Assert that recovering and damage tell what the second programs tell."""
        versions, branches, lost = plain_recover(text)
        history, told_lost = recover(text)
        self.assertEqual(told(history), told(told_by(versions, branches)), text)
        self.assert_exactly(told_lost, lost)
        good, damaged = damage(text)
        right, wrong = plain_damage(text)
        self.assertEqual(good, right)
        self.assertEqual({graph.__class__ for graph in good.values()} - {Graph}, set())
        self.assert_exactly((sorted(good), damaged), (sorted(right), wrong))
        return history, lost, good, damaged

    def assert_forged(self, lines, versions, branches, lost, good, damaged, tail=""):
        """Assert what is recovered of lines with right check numbers: how many versions, branches and lines are lost."""
        text = signed(lines) + tail
        history, characters, told_good, told_damaged = self.assert_recovered(text)
        self.assert_exactly((len(history), history.branches), (versions, branches))
        kept = "".join(line + "\n" for line in text.split("\n")[:len(lines) - lost])
        self.assertEqual(characters, len(text) - len(kept))
        self.assert_exactly((sorted(told_good), told_damaged), (good, damaged))


class TestWriting(JournalCase):

    def test_by_hand(self):
        history = History()
        history.commit(graph_of(1))
        self.assert_exactly(journal(history), "0 version - 2 #6592\n0 root a #3180\n0 a = set {1} #7633\n")
        self.assert_exactly(len(journal(history)), 55)
        history.branch("b", 0)
        self.assert_exactly(journal(history), journal(history)[:55] + f"branch b 0 #{check_sum(3, 'branch b 0')}\n")
        self.assert_exactly(journal(History()), "")

    def test_all_lines(self):
        history = told_by([(Graph("a", {"a": ("set", (1,))}), ()), (Graph("a", {"a": ("list", (at("b"), "x")), "b": ("list", ())}), (0,)),
                           (Graph("q", {"q": ("dict", ((1, -5),))}), (1, 0))], {"old": 0, "main": 2})
        self.assert_exactly(journal(history), signed(BRANCHED))
        for history in histories():
            self.assert_exactly(journal(history), signed(lines_of(history)))
            self.assert_exactly(journal(history=history), journal(history))

    def test_check_numbers(self):
        self.assert_exactly((check_sum(0, ""), check_sum(1, ""), check_sum(0, "a"), check_sum(0, "ab"), check_sum(2, "ab")), (0, 31, 97, 97 + 2 * 98, 97 + 196 + 62))
        self.assert_exactly((check_sum(0, "ba"), check_sum(32259, ""), check_sum(32258, "a"), check_sum(32258, "\x05")), (98 + 194, 26, 92, 0))
        self.assert_exactly(check_sum(line="ab", index=2), check_sum(2, "ab"))
        chance = oracle.chances(2)
        signs = "ab 0#\n'@{}:\u00e9\u4e2d\U0010ffff\ud800\0"
        for _ in range(300):
            line, index = "".join(chance.choice(signs) for _ in range(chance.randrange(400))), chance.choice((0, 1, 7, 999, 10 ** 6, 10 ** 20))
            self.assert_exactly(check_sum(index, line), check_of(index, line))
        self.assertLess(check_sum(0, "\U0010ffff" * 1000), 1000003)

    def test_wrong_histories(self):
        for value in [*STRANGE, "", ONE, History, [ONE], journal(some_history())]:
            self.assert_error(BadArgument, "value", value, journal, value)


class TestRecovering(JournalCase):

    def test_whole_journals(self):
        for history in histories():
            before = told(history)
            again, lost = recover(journal(history))
            self.assertIs(again == history, True)
            self.assert_exactly((told(again), lost), (before, 0))
            good, damaged = damage(journal(history))
            self.assert_exactly((list(good), damaged), (list(range(len(history))), []))
            self.assertEqual(list(good.values()), [history[number] for number in range(len(history))])
            self.assertEqual(told(history), before)

    def test_it_goes_on(self):
        history, _ = recover(journal(some_history()))
        self.assert_exactly((history.merge(1, 2), history.common(5, 4)), (5, 2))
        self.assertIs(recover(journal(history))[0] == history, True)

    def test_no_texts(self):
        for value in [value for value in STRANGE if not isinstance(value, str)] + [b"", 0, History(), [""], ("",), {"": ""}, journal(some_history()).encode()]:
            self.assert_error(BadText, "line", None, recover, value)
            self.assert_error(BadText, "line", None, damage, value)

    def test_the_empty_text(self):
        self.assert_exactly((recover("")[0] == History(), recover("")[1], damage("")), (True, 0, ({}, [])))
        self.assert_exactly((recover(text="\n")[1], damage(text="\n")), (1, ({}, [])))
        for text in [value for value in STRANGE if isinstance(value, str)] + ["\n\n", "#", " #0", " #0\n", "0", "0 version - 2", "root a", "\ud800", "0 #0"]:
            self.assert_recovered(text)
            self.assert_exactly((len(recover(text)[0]), recover(text)[1], damage(text)), (0, len(text), ({}, [])))

    def test_cut_off_at_every_place(self):
        for history in list(histories())[1:4]:
            text = journal(history)
            ends = [0]
            for number in range(len(history)):
                ends.append(ends[-1] + sum(len(line) + 1 for line in text.split("\n")[:-1] if line.startswith(f"{number} ")))
            for place in range(len(text) + 1):
                again, lost = recover(text[:place])
                kept = max(number for number, end in enumerate(ends) if end <= place)
                self.assertEqual(len(again), kept)
                self.assertEqual([(again[number], again.parents(number)) for number in range(kept)], [(history[number], history.parents(number)) for number in range(kept)])
                whole = text[:place].rfind("\n") + 1 if kept == len(history) else ends[kept]
                self.assert_exactly(lost, place - whole)
                self.assertEqual(len(again.branches), text[ends[-1]:whole].count("\n"))
                self.assertTrue(all(history.branches[name] == number for name, number in again.branches.items()))
                if place % 7 == 0:
                    self.assert_recovered(text[:place])
                    good, damaged = damage(text[:place])
                    self.assertTrue(all(good[number] == history[number] for number in good))
                    # What lacks is just the line feed of the last line, or the version is not whole.
                    self.assertLessEqual(set(range(kept)), set(good))
                    self.assertLessEqual(set(damaged), set(range(len(history))) - set(good))

    def test_spoilt_in_one_character(self):
        chance = oracle.chances(3)
        signs = "ab019 #\n-,'@={}[]x\u00e9"
        for history in list(histories())[1:5]:
            text = journal(history)
            for _ in range(250):
                place = chance.randrange(len(text))
                way = chance.randrange(4)
                if way == 0:
                    spoilt = text[:place] + chance.choice(signs) + text[place + 1:]
                elif way == 1:
                    spoilt = text[:place] + text[place + 1:]
                elif way == 2:
                    spoilt = text[:place] + chance.choice(signs) + text[place:]
                else:
                    spoilt = text[:place] + text[place:place + 2][::-1] + text[place + 2:]
                again, _, good, damaged = self.assert_recovered(spoilt)
                if spoilt == text:
                    continue
                self.assert_ahead(history, text, place, again)
                for number in good:
                    self.assertEqual(good[number], history[number])
                self.assertLessEqual(set(damaged), set(range(len(history))))

    def assert_ahead(self, history, text, place, again):
        """Assert that the versions ahead of the line of a place are recovered, and no more than there are."""
        line = text[:place].count("\n")
        heads = [index for index, told_line in enumerate(text.split("\n")) if " version " in told_line]
        whole = [number for number, head in enumerate(heads) if head + 1 + len(history[number]) < line]
        self.assertGreaterEqual(len(again), len(whole))
        self.assertLessEqual(len(again), len(history))
        for number in range(len(again)):
            self.assertEqual((again[number], again.parents(number)), (history[number], history.parents(number)))

    def test_damage_tells_what_is_whole(self):
        history = some_history()
        text = journal(history)
        lines = text.split("\n")
        for index, line in enumerate(lines[:-1]):
            # A spoilt line takes away just its own version, or branch.
            spoilt = "\n".join([*lines[:index], line.replace(" ", "  ", 1), *lines[index + 1:]])
            good, damaged = damage(spoilt)
            number = int(line.split(" ")[0]) if line[0] != "b" else None
            self.assert_exactly((sorted(good), damaged), ([told_number for told_number in range(5) if told_number != number], [number] if number is not None else []))
            self.assertTrue(all(good[told_number] == history[told_number] for told_number in good))
            # Behind a line that is left out no check number is right.
            good, damaged = damage("\n".join([*lines[:index], *lines[index + 1:]]))
            if number is None:
                self.assert_exactly((sorted(good), damaged), ([0, 1, 2, 3, 4], []))
            else:
                begun = any(told_line.startswith(f"{number} ") for told_line in lines[:index])
                self.assert_exactly((sorted(good), damaged), (list(range(number)), [number] if begun else []))


class TestForging(JournalCase):

    def test_as_a_journal_would_be(self):
        self.assert_forged(LONE, 1, {}, 0, [0], [])
        self.assert_forged(BRANCHED, 3, {"main": 2, "old": 0}, 0, [0, 1, 2], [])
        # Branches in any order of names.
        self.assert_forged([*THREE, "branch old 0", "branch a 0", "branch main 2"], 3, {"old": 0, "a": 0, "main": 2}, 0, [0, 1, 2], [])
        # Parents in any order.
        self.assert_forged([*TWO, "2 version 0,1 2", *THREE[-2:]], 3, {}, 0, [0, 1, 2], [])

    def test_versions_out_of_turn(self):
        self.assert_forged([line.replace("0", "1", 1) for line in LONE], 0, {}, 3, [1], [0])
        self.assert_forged([*LONE, *THREE[-3:]], 1, {}, 3, [0, 2], [1])
        self.assert_forged([*THREE[-3:], *LONE], 0, {}, 6, [0, 2], [1])
        self.assert_forged([*LONE, "5 version - 2", "5 root a", "5 a = set {}"], 1, {}, 3, [0, 5], [1, 2, 3, 4])

    def test_versions_twice(self):
        self.assert_forged([*LONE, *LONE], 1, {}, 3, [], [0])
        self.assert_forged([*LONE, "0 version - 2"], 1, {}, 1, [], [0])
        self.assert_forged([*LONE, "0 root a"], 1, {}, 1, [], [0])
        self.assert_forged([*LONE, "0 version - 3"], 1, {}, 1, [], [0])
        self.assert_forged(["0 version - 2", *LONE], 0, {}, 4, [], [0])

    def test_parents(self):
        for parents, taken in (("0", 1), ("-", 1), ("1", 0), ("0,0", 0), ("0,1", 0), ("2", 0), ("0,1,2", 0), ("99999", 0), ("1,0", 0)):
            lines = [*LONE, f"1 version {parents} 2", "1 root a", "1 a = set {}"]
            self.assert_forged(lines, 1 + taken, {}, 0 if taken else 3, [0, 1], [])
        lines = [*TWO, "2 version 0,1,0 2", *THREE[-2:]]
        self.assert_forged(lines, 2, {}, 3, [0, 1, 2], [])
        self.assert_forged(["0 version 0 2", *LONE[1:]], 0, {}, 3, [0], [])

    def test_strange_first_lines(self):
        for head in ("1 version 00 2", "1 version , 2", "1 version 0, 2", "1 version ,0 2", "1 version 100000 2", "1 version  2", "1 version 0 2 ", "1 version 0 02", "1 version 0 2x",
                     "1 version 0  2", "1  version 0 2", "1 version 0", "1 Version 0 2", "1 version -0 2", "1 version --  2", "1 version - 100000", "1 version 0;0 2", "1 version 0, 0 2"):
            # They are any text behind a number, and so lines of the version, but not its first one.
            self.assert_forged([*LONE, head, "1 root a", "1 a = set {}"], 1, {}, 3, [0], [1])
        for head in ("01 version 0 2", "-1 version 0 2", "+1 version 0 2", "100000 version 0 2", "x version 0 2", " 1 version 0 2", "version 0 2", "1"):
            self.assert_forged([*LONE, head], 1, {}, 1, [0], [])

    def test_numbers_of_lines(self):
        for number in (0, 1, 3, 4, 99999):
            self.assert_forged([f"0 version - {number}", *LONE[1:]], 0, {}, 3, [], [0])
        self.assert_forged([f"0 version - 1", "0 root a"], 0, {}, 2, [], [0])
        self.assert_forged([f"0 version - 0"], 0, {}, 1, [], [0])
        self.assert_forged(["0 version - 2", "0 root a", "0 a = set {@b}"], 0, {}, 3, [], [0])
        self.assert_forged(["0 version - 3", *LONE[1:], "0 b = list []"], 0, {}, 4, [], [0])
        self.assert_forged(["0 version - 3", *LONE[1:], "1 b = list []"], 0, {}, 4, [], [0, 1])
        self.assert_forged(["0 version - 3", *LONE[1:], "0 "], 0, {}, 4, [], [0])
        self.assert_forged([*LONE, "0 "], 1, {}, 1, [], [0])

    def test_texts_that_are_not_as_they_are_written(self):
        for lines in (["root a", "a = set {1 }"], ["root a", "a = set { 1}"], ["a = set {1}", "root a"], ["root  a", "a = set {1}"], ["root a", "a = set {1} "],
                      ["root a", "a = set {2, 1}"], ["root a", "a = set {1, 1}"], ["root a", "a = set {01}"], ["root a", "a = set {@a, 1}"], ["root b", "a = set {1}"],
                      ["root a", "a = set {1"], ["root a", "a =set {1}"], ["root a", "A = set {1}"], ["root a", ""], ["", ""], ["root a", "root a"],
                      ["root a", "a = list [" + ", ".join(["1"] * 31) + "]"], ["root a", "a = bag {1}"], ["root a", "a = set {1} #5"]):
            self.assert_forged(["0 version - 2", *[f"0 {line}" for line in lines]], 0, {}, 3, [], [0])
        self.assert_forged(["0 version - 3", "0 root a", "0 b = list []", "0 a = list [@b]"], 0, {}, 4, [], [0])
        self.assert_forged(["0 version - 3", "0 root a", "0 a = list [@b]", "0 b = list []"], 1, {}, 0, [0], [])
        self.assert_forged(["0 version - 3", "0 root a", "0 a = list []", "0 b = list []"], 0, {}, 4, [], [0])
        many = [f"0 a{index:02} = list [{f'@a{index + 1:02}' if index < 60 else ''}]" for index in range(61)]
        self.assert_forged(["0 version - 62", "0 root a00", *many], 0, {}, 63, [], [0])
        whole = [line.replace("@a60", "") for line in many[:60]]
        self.assert_forged(["0 version - 61", "0 root a00", *whole], 1, {}, 0, [0], [])

    def test_lines_not_one_behind_the_other(self):
        mixed = [TWO[0], TWO[3], TWO[1], TWO[4], TWO[2], *TWO[5:]]
        self.assert_forged(mixed, 0, {}, 7, [0, 1], [])
        self.assert_forged([LONE[1], LONE[0], LONE[2]], 0, {}, 3, [0], [])
        self.assert_forged([LONE[0], LONE[2], LONE[1]], 0, {}, 3, [], [0])
        self.assert_forged([*LONE[:2], "branch main 0", LONE[2]], 0, {}, 4, [0], [])
        self.assert_forged([*LONE, "", *TWO[3:]], 1, {}, 5, [0, 1], [])

    def test_branches(self):
        self.assert_forged([*LONE, "branch a 0", "branch b 0", "branch a 0"], 1, {"a": 0, "b": 0}, 1, [0], [])
        self.assert_forged([*LONE, "branch a 1"], 1, {}, 1, [0], [1])
        self.assert_forged([*LONE, "branch a 3", "branch b 0"], 1, {}, 2, [0], [1, 2, 3])
        self.assert_forged(["branch a 0", *LONE], 0, {}, 4, [0], [])
        self.assert_forged(["branch a 0"], 0, {}, 1, [], [0])
        # Behind a branch no version is taken any more.
        self.assert_forged([*LONE, "branch a 0", *TWO[3:]], 1, {"a": 0}, 4, [0, 1], [])
        for line in ("branch A 0", "branch a1 0", "branch abcdefghi 0", "branch  0", "branch a 00", "branch a -0", "branch a 0 ", "branch a", "branch a 100000", "Branch a 0",
                     "branch a  0", " branch a 0", "branch a 0 0", "branch a x", "branch", "branches a 0"):
            self.assert_forged([*LONE, line, "branch ok 0"], 1, {}, 2, [0], [])
        self.assert_forged([*LONE, "branch abcdefgh 0"], 1, {"abcdefgh": 0}, 0, [0], [])

    def test_greatest_numbers(self):
        self.assert_forged(["99999 root a"], 0, {}, 1, [], list(range(100000)))
        self.assert_forged(["100000 root a"], 0, {}, 1, [], [])
        self.assert_forged([*LONE, "3 anything at all"], 1, {}, 1, [0], [1, 2, 3])
        self.assert_forged(["7 version 9,9,9,9 2", "7 root a", "7 a = set {}"], 0, {}, 3, [7], list(range(7)))

    def test_check_numbers_that_are_not_right(self):
        right = signed(LONE).split("\n")
        for line in (right[2] + " ", right[2].replace("#", "# "), right[2].replace(" #", "#"), right[2].replace("#", "#0"), right[2].replace("#", "#-"), right[2][:-1],
                     right[2].replace("#7633", f"#{7633 + 1000003}"), right[2].replace(" #", "  #"), right[2].replace("#", "##"), right[2] + "\r", LONE[2], LONE[2] + " #"):
            text = "\n".join([*right[:2], line, ""])
            self.assert_recovered(text)
            self.assert_exactly((len(recover(text)[0]), recover(text)[1], damage(text)), (0, len(text), ({}, [0])))
        # The index of the line counts.
        text = "\n".join(["", *right])
        self.assert_exactly((recover(text)[1], damage(text)), (len(text), ({}, [])))

    def test_a_last_line_without_a_line_feed(self):
        text = signed(LONE)[:-1]
        history, lost = recover(text)
        self.assert_exactly((len(history), lost), (0, len(text)))
        self.assert_exactly((sorted(damage(text)[0]), damage(text)[1]), ([0], []))
        text = signed([*LONE, "branch main 0"])[:-1]
        history, lost = recover(text)
        self.assert_exactly((len(history), history.branches, lost), (1, {}, len(text.split("\n")[-1])))
        self.assert_exactly(damage(signed([*LONE, "branch main 1"])[:-1])[1], [1])
        self.assert_forged(LONE, 1, {}, 0, [0], [], tail="1 version 0 2")
        self.assert_forged(LONE, 1, {}, 0, [0], [1], tail=f"1 version 0 2 #{check_of(3, '1 version 0 2')}")

    def test_any_lines(self):
        chance = oracle.chances(4)
        lines = [*BRANCHED, "1 version - 3", "2 version 0 2", "branch a 1", "branch main 0", "0 ", "2 version 1,1 2", "1 a = list []", "3 version - 2", "3 root a", "3 a = set {}"]
        for _ in range(600):
            size = chance.randrange(1, 13)
            if chance.random() < 0.5:
                told_lines = chance.sample(lines, size)
            else:
                told_lines = list(BRANCHED)
                for _ in range(chance.randrange(1, 3)):
                    place = chance.randrange(len(told_lines))
                    told_lines[place:place + chance.randrange(2)] = [chance.choice(lines)]
            text = signed(told_lines)
            self.assert_recovered(text if chance.random() < 0.7 else text[:-1])


class TestConventions(JournalCase):

    def test_equal_results(self):
        for history in histories():
            text = journal(history)
            self.assertEqual(journal(history), text)
            self.assertIs(recover(text)[0] == recover(text)[0], True)
            self.assertEqual(damage(text), damage(text))

    def test_what_was_returned_may_change(self):
        text = journal(some_history())[:-30]
        one, other = damage(text), damage(text)
        shown = repr([sorted(other[0]), other[1]])
        scribble(one)
        self.assertEqual(repr([sorted(other[0]), other[1]]), shown)
        history = recover(text)[0]
        history.commit(ONE)
        self.assertEqual(len(recover(text)[0]), 5)
        self.assertEqual(write(recover(text)[0][0]), write(graph_of(1)))
