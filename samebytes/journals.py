"""Journals: the text of a history, what is recovered of one that was cut off, and what is left of a damaged one."""

from samebytes.errors import BadArgument, BadText, GraphError
from samebytes.objects import is_name, is_spelled
from samebytes.texts import DIGITS, read, write
from samebytes.versions import History, are_parents, is_version

INDEX_FACTOR = 31
CHECK_MODULUS = 1000003
LONGEST_NUMBER = 5
NO_PARENTS = "-"


def check_sum(index, line):
    """Return the check number of a text as the line with an index."""
    total = sum([ord(sign) * place for place, sign in enumerate(line, start=1)])
    return (total + INDEX_FACTOR * index) % CHECK_MODULUS


def journal(history):
    """Return the journal of a history."""
    if not isinstance(history, History):
        raise BadArgument(history)
    lines = []
    for number in range(len(history)):
        lines.extend(version_lines(number, history.parents(number), write(history[number]).split("\n")))
    branches = history.branches
    lines.extend([f"branch {name} {branches[name]}" for name in sorted(branches)])
    return "".join([f"{line} #{check_sum(index, line)}\n" for index, line in enumerate(lines)])


def recover(text):
    """Return the history that the beginning of a text tells, and how many characters of the text are lost."""
    check_text(text)
    lines = text.split("\n")[:-1]
    told = [told_line(index, line) for index, line in enumerate(lines)]
    history = History()
    taken = take_branches(history, told, take_versions(history, told))
    return (history, len(text) - sum([len(line) + 1 for line in lines[:taken]]))


def damage(text):
    """Return the dict of the versions that can be told of a text, and the ascending list of those that cannot."""
    check_text(text)
    right = {}
    for index, line in enumerate(text.split("\n")):
        told = told_line(index, line)
        if told is not None:
            right.setdefault(told[1], []).append(told)
    graphs = {number: told_graph(right[number]) for number in sorted(right)}
    good = {number: graph for number, graph in graphs.items() if graph is not None}
    return (good, [number for number in range(max(right, default=-1) + 1) if number not in good])


def check_text(value):
    """Raise the error for any value that is no text."""
    if not isinstance(value, str):
        raise BadText(None)


def version_lines(number, parents, lines):
    """Return the lines of a version without their check numbers."""
    told = ",".join([str(parent) for parent in parents]) if parents else NO_PARENTS
    return [f"{number} version {told} {len(lines)}"] + [f"{number} {line}" for line in lines]


def told_line(index, line):
    """Return what the line with an index tells, or None if it is not right.

    That is ("version", number, (parents, how many lines)), ("line", number, text) or ("branch", number, name).
    """
    told, sign, check = line.rpartition(" #")
    if sign == "" or check != str(check_sum(index, told)):
        return None
    words = told.split(" ")
    if len(words) == 4 and words[1] == "version" and are_counts([words[0], words[3]]) and is_parent_list(words[2]):
        return ("version", int(words[0]), (read_parents(words[2]), int(words[3])))
    if len(words) == 3 and words[0] == "branch" and is_name(words[1]) and is_count(words[2]):
        return ("branch", int(words[2]), words[1])
    if len(words) > 1 and is_count(words[0]):
        return ("line", int(words[0]), told[len(words[0]) + 1:])
    return None


def is_count(word):
    """Tell whether a word is a number as it is written in a journal."""
    return is_spelled(word, DIGITS, 1, LONGEST_NUMBER) and (word[0] != "0" or word == "0")


def are_counts(words):
    """Tell whether all words of a list are numbers."""
    return all([is_count(word) for word in words])


def is_parent_list(word):
    """Tell whether a word tells parents, however many."""
    return word == NO_PARENTS or are_counts(word.split(","))


def read_parents(word):
    """Return the tuple of the parents that a word tells."""
    return () if word == NO_PARENTS else tuple([int(number) for number in word.split(",")])


def take_versions(history, told):
    """Commit the versions at the beginning of what the lines tell, and return how many lines were taken."""
    taken = 0
    length = version_length(history, told, taken)
    while length > 0:
        taken += length
        length = version_length(history, told, taken)
    return taken


def version_length(history, told, start):
    """Commit the version whose lines begin at a place; return how many they are, none if it cannot be taken."""
    if start == len(told) or told[start] is None or told[start][:2] != ("version", len(history)):
        return 0
    parents, size = told[start][2]
    lines = told[start + 1:start + 1 + size]
    if len(lines) != size or not are_parents(history, parents):
        return 0
    if not all([line is not None and line[:2] == ("line", len(history)) for line in lines]):
        return 0
    graph = graph_of("\n".join([line[2] for line in lines]))
    if graph is None:
        return 0
    history.commit(graph, parents)
    return size + 1


def take_branches(history, told, start):
    """Set the branches that lines tell from a place on, and return behind how many lines that ends."""
    for taken in range(start, len(told)):
        line = told[taken]
        if line is None or line[0] != "branch" or line[2] in history.branches or not is_version(history, line[1]):
            return taken
        history.branch(line[2], line[1])
    return len(told)


def told_graph(right):
    """Return the graph that all right lines with the number of a version tell, or None if they tell none."""
    sizes = [content[1] for word, _, content in right if word == "version"]
    lines = [content for word, _, content in right if word == "line"]
    return graph_of("\n".join(lines)) if sizes == [len(lines)] else None


def graph_of(text):
    """Return the graph whose text this is, exactly, or None."""
    try:
        graph = read(text)
    except GraphError:
        return None
    return graph if write(graph) == text else None
