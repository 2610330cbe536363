"""The interface as it is listed: all names of all files, their arguments by name, and where they are defined (2)."""

import importlib
import inspect

from samebytes import errors
from samebytes.stores import Store
from tests.helpers import Case

# For each file its functions, with their arguments; those with = may be omitted.
FUNCTIONS = {
    "objects": ["is_mark(value)", "is_name(value)", "is_plain(value)", "is_worth(value)", "is_object(value)", "ordered(thing)", "references(thing)", "places(thing)",
                "replaced(thing, marks)"],
    "texts": ["write(graph)", "read(text)"],
    "maps": ["keeps(one, other, value, marked=(), others=())", "then(first, second)", "backwards(first)"],
    "colours": ["look_alike(one, first, mark, other, second, target)", "rounds(one, other, marked=(), others=())", "classes(graph, marked=())"],
    "papers": ["is_same(one, other)", "sameness(one, other, marked=(), others=())", "difference(one, other, marked=(), others=())",
               "check_difference(one, other, value, marked=(), others=())", "every_map(one, other)"],
    "symmetries": ["symmetries(graph, marked=())", "carried(graph, mark, target)", "families(graph, marked=())", "number_paper(graph)", "check_number(graph, number, value)",
                   "made_by(graph, maps)"],
    "forms": ["one_text(graph)", "numbering(graph)"],
    "pieces": ["pieces(graph)", "ports(graph, piece)", "shape(graph, piece)", "alike_pieces(one, piece, other, target)"],
    "nearest": ["cost(one, other, value)", "nearest(one, other)", "cost_bound(one, other)"],
    "merges": ["merge(base, one, other)", "clashes(base, one, other)", "check_merge(base, one, other, value, paper)"],
    "journals": ["check_sum(index, line)", "journal(history)", "recover(text)", "damage(text)"],
}
# For each class its methods and properties, those with brackets being methods.
CLASSES = {
    ("graphs", "Graph"): ["__init__(root, objects)", "root", "marks", "objects", "__getitem__(mark)", "__contains__(value)", "__len__()", "__iter__()", "__eq__(other)", "__call__(path)",
                          "walk()", "referrers(mark)", "part(mark)", "renamed(marks)", "__sub__(other)", "__add__(other)"],
    ("stores", "Store"): ["__init__()", "__len__()", "__contains__(value)", "put(name, graph)", "get(name)", "drop(name)", "names", "shapes", "occurrences(name)", "users(shape)"],
    ("views", "View"): ["__init__(store, name)", "root", "loaded", "thing(mark)", "__call__(path)", "__iter__()"],
    ("edits", "Editor"): ["__init__(graph)", "graph", "text", "__len__()", "set_field(mark, name, worth)", "drop_field(mark, name)", "set_item(mark, index, worth)",
                          "insert_item(mark, index, worth)", "drop_item(mark, index)", "add_member(mark, worth)", "drop_member(mark, worth)", "set_entry(mark, key, worth)",
                          "drop_entry(mark, key)", "carry_out(change)", "undo()", "__enter__()", "__exit__(kind, value, trace)"],
    ("versions", "History"): ["__init__()", "__len__()", "commit(graph, parents=())", "__getitem__(number)", "parents(number)", "comes_from(number, other)", "common(number, other)",
                              "merge(number, other)", "branch(name, number)", "branches", "__eq__(other)"],
    ("console", "Console"): ["__init__()", "history", "execute(line)"],
}
FILES = sorted({*FUNCTIONS, *[file for file, _ in CLASSES]})


def module(file):
    return importlib.import_module(f"samebytes.{file}")


def arguments(call, is_method):
    """The arguments of a function or a method as they are listed."""
    told = list(inspect.signature(call).parameters.values())[1 if is_method else 0:]
    assert all(parameter.kind is parameter.POSITIONAL_OR_KEYWORD for parameter in told)
    return ", ".join(parameter.name if parameter.default is parameter.empty else f"{parameter.name}={parameter.default!r}" for parameter in told)


class TestInterface(Case):

    def test_functions(self):
        for file, listed in FUNCTIONS.items():
            for line in listed:
                name = line.split("(")[0]
                with self.subTest(line):
                    call = vars(module(file))[name]
                    self.assertTrue(inspect.isfunction(call))
                    self.assertEqual(call.__module__, f"samebytes.{file}")
                    self.assertEqual(f"{name}({arguments(call, False)})", line)

    def test_classes(self):
        for (file, name), listed in CLASSES.items():
            told = vars(module(file))[name]
            self.assertTrue(inspect.isclass(told))
            self.assertEqual(told.__module__, f"samebytes.{file}")
            for line in listed:
                with self.subTest(name, line=line):
                    found = vars(told)[line.split("(")[0]]
                    if "(" in line:
                        self.assertEqual(f"{line.split('(')[0]}({arguments(found, True)})", line)
                    else:
                        self.assertIsInstance(found, property)

    def test_properties_cannot_be_set(self):
        self.assertRaises(AttributeError, lambda: setattr(Store(), "names", []))

    def test_what_has_no_hash(self):
        for (file, name), listed in CLASSES.items():
            told = vars(module(file))[name]
            self.assertEqual(told.__hash__ is None, "__eq__(other)" in listed)

    def test_all_errors_are_graph_errors(self):
        for name, told in vars(errors).items():
            if inspect.isclass(told) and name != "GraphError":
                self.assertEqual(told.__bases__, (errors.GraphError,))

    def test_no_file_shares_what_it_imports(self):
        # A name of the interface is defined in one file alone.
        names = [line.split("(")[0] for listed in FUNCTIONS.values() for line in listed] + [name for _, name in CLASSES]
        self.assertEqual(len(set(names)), len(names))
        for file in FILES:
            for name, told in vars(module(file)).items():
                if name in names and name not in [line.split("(")[0] for line in FUNCTIONS.get(file, [])] and (file, name) not in CLASSES:
                    self.assertNotEqual(told.__module__, f"samebytes.{file}")
