"""Papers of difference: making one, and checking one without a search."""

from samebytes.maps import is_kept
from samebytes.objects import is_pair
from samebytes.pairs import are_unlike_bags, is_colouring, named
from samebytes.rounds import first_signs
from samebytes.searches import Search, carriers
from samebytes.webs import Web, graph_part, ranked


def difference_paper(pair, marked, others):
    """Return a paper of difference for a pair of graphs that no map keeps with these marked objects."""
    told = pair.rounds(marked, others)
    for number, (first, second) in enumerate(told):
        if are_unlike_bags(first, second):
            return ("bags", told[:number + 1])
    first, second = told[-1]
    mark = least_choice(first)
    keys = [key for key in pair.other if second[key] == first[mark]]
    return ("choose", told, mark, all_branches(pair, (*marked, mark), others, keys))


def least_choice(colouring):
    """Return the first mark of the smallest class, of those with more than one object."""
    members = {}
    for mark in sorted(colouring):
        members.setdefault(colouring[mark], []).append(mark)
    return min([(len(marks), marks[0]) for marks in list(members.values()) if len(marks) > 1])[1]


def all_branches(pair, marked, others, keys):
    """Return the branches with these keys: for those that symmetries carry into one another, one paper is enough."""
    names = pair.other.marks
    symmetries = Search(Web([graph_part(pair.other)]), first_signs(pair.other, others)).symmetries
    branches = {}
    for key in keys:
        if key not in branches:
            branches[key] = difference_paper(pair, marked, (*others, key))
            images_of = carriers(len(names), names.index(key), symmetries)
            for point, images in images_of.items():
                if names[point] != key:
                    branches[names[point]] = ("like", key, named(names, images))
    return branches


def is_difference_paper(pair, marked, others, value):
    """Tell whether any value is a paper of difference for a pair of graphs with these marked objects."""
    word = head(value)
    if word == "bags" and len(value) == 2:
        return are_rounds(pair, marked, others, value[1]) and is_last_unlike(value[1])
    if word != "choose" or len(value) != 4 or not are_rounds(pair, marked, others, value[1]):
        return False
    _, rounds, mark, branches = value
    if mark not in pair.one or not are_right_keys(pair, rounds, mark, branches):
        return False
    for key in branches:
        if not is_branch(pair, (*marked, mark), others, branches, key):
            return False
    return True


def is_last_unlike(rounds):
    """Tell whether there is a last round, and some number is given to unlike many objects by it."""
    if not rounds:
        return False
    first, second = rounds[-1]
    return are_unlike_bags(first, second)


def head(value):
    """Return the word at the beginning of any value that is a tuple with a word there, otherwise None."""
    if isinstance(value, tuple) and value and isinstance(value[0], str):
        return value[0]
    return None


def are_rounds(pair, marked, others, value):
    """Tell whether any value is a list of pairs of colourings that part no objects which look alike."""
    if not isinstance(value, list) or not all([are_colourings(pair, colourings) for colourings in value]):
        return False
    rounds = [pair.joined(first, second) for first, second in value]
    return are_right_rounds(pair.web, pair.all_signs(marked, others), rounds)


def are_right_rounds(web, signs, rounds):
    """Tell whether no list of numbers of the points parts any that are alike at first, or by the list before."""
    before = signs
    seen = [0 for _ in signs]
    for numbers in rounds:
        if not are_alike_together(web, before, seen, numbers):
            return False
        before = numbers
        seen = ranked(numbers)
    return True


def are_colourings(pair, value):
    """Tell whether any value is a pair of colourings of two graphs."""
    return is_pair(value) and is_colouring(pair.one, value[0]) and is_colouring(pair.other, value[1])


def are_alike_together(web, before, seen, numbers):
    """Tell whether points that had the same before, and look alike by the colours that are seen, have one number."""
    told = {}
    for point, number in enumerate(numbers):
        look = (before[point], web.looks[point], web.ties(point, seen))
        if told.setdefault(look, number) != number:
            return False
    return True


def are_right_keys(pair, rounds, mark, branches):
    """Tell whether any value is a dict whose keys are all objects of the other graph with the number of a mark."""
    if not isinstance(branches, dict) or not all([key in pair.other for key in branches]):
        return False
    keys = pair.other.marks
    if rounds:
        first, second = rounds[-1]
        keys = [key for key in keys if second[key] == first[mark]]
    return sorted(branches) == keys


def is_branch(pair, marked, others, branches, key):
    """Tell whether what stands under a key is a right branch."""
    value = branches[key]
    if head(value) != "like" or len(value) != 3:
        return is_difference_paper(pair, marked, (*others, key), value)
    _, like, images = value
    # That the branch of the like one is right is told where its own turn comes. It is another one, as this is no paper.
    if like not in pair.other or like not in branches or head(branches[like]) == "like":
        return False
    return is_kept(pair.other, pair.other, images, others, others) and images[like] == key
