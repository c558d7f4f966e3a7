"""Tests of the interface as a whole: where each name is defined, and with which parameters."""

import ast
import importlib
import inspect
import os
import unittest

import sharedlets

# For each module its constants, functions and classes; each class with its methods and properties.
INTERFACE = {
    "terms.terms": (
        {"MAX_PARTS": 500, "MAX_LEVELS": 120},
        ("is_name(value)", "is_open_term(value)", "is_term(value)", "use(name)", "word(name, *terms)", "word_of(name, terms)", "fun(variable, term)",
         "let(term, **definitions)", "let_of(term, definitions)", "free_names(part)", "size_of(part)", "levels_of(part)", "subterms(part)",
         "part_at(part, path)", "put_at(part, path, other)", "binder_of(part, path)", "head_path(term, path)"),
        {},
    ),
    "terms.texts": ({}, ("write(part)", "read_open(text)", "read(text)"), {}),
    "graphs.graphs": ({"MAX_NODES": 100}, (), {
        "Graph": (("__init__(self, *nodes)", "needs(self, node)", "innermost(self, node)", "scope(self, node)", "parents(self, node)", "reached(self, node)",
                   "is_on_ring(self, node)", "closed_part(self, node)"), ("of(nodes)",), ("nodes", "functions"),
                  ("__getitem__", "__len__", "__iter__", "__eq__", "__str__")),
    }),
    "graphs.made": ({}, ("graph_of(term)", "term_of(graph)", "node_of(term, path)"), {}),
    "looks.addresses": (
        {"MAX_TIMES": 10 ** 30},
        ("is_address(value)", "length_of(address)", "plain(address)", "cut(address, length)", "look(graph, address)", "node_at(graph, address)",
         "copies_at(graph, address)", "owner_at(graph, address)"),
        {},
    ),
    "looks.counts": (
        {"MAX_DEPTH": 1000},
        ("level_size(graph, depth)", "level_sizes(graph, depth)", "node_times(graph, node, depth)", "first_address(graph, node)", "number_of(graph, address)",
         "address_of(graph, depth, number)"),
        {},
    ),
    "alike.matchings": ({}, ("are_alike(graph, other)", "matching(graph, other)", "widest_matching(graph, other)", "is_matching(graph, other, value)"), {}),
    "alike.differences": (
        {}, ("first_difference(graph, other)", "is_alike_up_to(graph, other, depth)", "alike_paper(graph, other)", "is_alike_paper(graph, other, value)"), {},
    ),
    "least.least": (
        {}, ("classes(graph)", "least(graph)", "is_least(graph)", "joinable(graph)", "joined(graph, node, other)", "joined_all(graph, pairs)"), {},
    ),
    "least.maps": (
        {}, ("map_onto(graph, other)", "is_map(graph, other, value)", "quotient(graph, division)", "quotients(graph)", "product(graph, other)",
             "common(graph, other)"), {},
    ),
    "change.steps": (
        {}, ("unfolded(term, path)", "folded(term, path, name)", "renamed_at(term, path, old, new)", "moved_out(term, path)", "moved_in(term, path, index)",
             "with_definition(term, path, name, part)", "without_unused(term)", "joined_names(term, path, groups)"), {},
    ),
    "parts.places": ({}, ("same_part(graph, node, other)", "part_classes(graph)", "places_of(graph, other)", "opened(graph, node)"), {}),
    "families.families": ({}, ("is_body(value)",), {
        "Family": (("__init__(self, main, **definitions)", "needs(self, name)", "called(self, name)", "reached(self)", "needs_of(self, place)",
                    "leads(self, name, *variables)", "with_definition(self, name, parameters, body)", "without(self, *names)", "renamed(self, **names)",
                    "renamed_by(self, names)"), ("of(definitions)",), ("names", "definitions", "size", "start"),
                   ("__getitem__", "__len__", "__contains__", "__eq__", "__str__")),
    }),
    "families.texts": ({}, ("write_body(body)", "write_family(family)", "read_body(text)", "read_family(text)"), {}),
    "families.alike": (
        {}, ("look_in(program, address)", "needed_at(program, address)", "alike_programs(first, second)", "table(first, second)",
             "is_table(first, second, value)", "program_difference(first, second)", "are_alike_to(first, second, depth)"), {},
    ),
    "families.least": ({}, ("open_parts(family)", "renaming(family, place, other)", "least_family(program)", "is_least_family(family)"), {}),
    "families.lifted": ({}, ("family_of(graph)", "lifted(term)", "unneeded(family)", "without_unneeded(family)"), {}),
    "chains.chains": (
        {}, ("row_at(program, address)", "anchors(family)", "longest_row(family)", "chain(family)", "is_chain(family, value)", "walked(family, paper, many)"), {},
    ),
    "chains.nested": ({}, ("is_plain(family)", "graph_of_family(family)", "taken(family)", "copies(family)"), {}),
    "store.store": ({"MAX_PROGRAMS": 20, "MAX_STORED": 300, "MAX_KEPT": 1000}, (), {
        "Store": (("__init__(self, *, kept=100)", "keep(self, kept)", "do(self, *edits)", "do_all(self, edits)", "undo(self, *, many=1)", "redo(self, *, many=1)",
                   "news(self)", "alike(self, name)", "shared(self, name, other)", "users(self, node)", "where(self, graph)", "trial(self)",
                   "attempt(self, action)", "twin(self)"), (), ("names", "nodes", "roots", "steps", "kept"),
                  ("__getitem__", "__len__", "__contains__", "__eq__", "__str__")),
    }),
    "text.formats": (
        {"MAX_LINES": 1000},
        ("format_graph(graph)", "format_address(address)", "format_difference(value)", "format_relation(value)", "format_paper(value)", "format_chain(value)",
         "parse_graph(text)", "parse_address(text)", "parse_difference(text)", "parse_relation(text)", "parse_paper(text)", "parse_chain(text)",
         "drawn(graph, depth)"),
        {},
    ),
    "text.shell": ({}, (), {
        "Shell": (("__init__(self, store=None)", "run(self, line)", "run_all(self, lines)", "stored(self)"), (), ("log", "names"),
                  ("__call__", "__len__", "__str__")),
    }),
}
GENERATORS = ("terms.terms.subterms", "looks.counts.level_sizes", "least.least.joinable", "least.maps.quotients")


def told(function):
    return function.__name__ + str(inspect.signature(function))


class Interface(unittest.TestCase):

    def modules(self):
        for name, (constants, functions, classes) in INTERFACE.items():
            module = importlib.import_module("sharedlets." + name)
            with open(module.__file__, encoding="utf-8") as source:
                yield module, ast.parse(source.read()), constants, functions, classes

    def test_each_module_defines_its_functions(self):
        for module, tree, constants, functions, _ in self.modules():
            defined = {node.name for node in tree.body if isinstance(node, ast.FunctionDef)}
            for line in functions:
                name = line.partition("(")[0]
                self.assertIn(name, defined)
                self.assertEqual(told(getattr(module, name)), line)
            for name, value in constants.items():
                self.assertEqual(getattr(module, name), value)

    def test_each_class_has_its_methods_itself(self):
        for module, tree, _, _, classes in self.modules():
            bodies = {node.name: node.body for node in tree.body if isinstance(node, ast.ClassDef)}
            for name, (methods, class_methods, properties, signs) in classes.items():
                kind = getattr(module, name)
                defined = {node.name for node in bodies[name] if isinstance(node, ast.FunctionDef)}
                for line in methods:
                    self.assertIn(line.partition("(")[0], defined)
                    self.assertEqual(told(vars(kind)[line.partition("(")[0]]), line)
                for line in class_methods:
                    self.assertIsInstance(vars(kind)[line.partition("(")[0]], classmethod)
                    self.assertEqual(told(getattr(kind, line.partition("(")[0])), line)
                for one in properties:
                    self.assertIsInstance(vars(kind)[one], property)
                    self.assertEqual(vars(kind)[one].fset is not None, one == "kept")
                self.assertLessEqual(set(signs), defined)

    def test_generators(self):
        for name in GENERATORS:
            module, _, function = name.rpartition(".")
            self.assertTrue(inspect.isgeneratorfunction(getattr(importlib.import_module("sharedlets." + module), function)))
        for kind, name in (("store.store", "news"), ("text.shell", "run_all")):
            module = importlib.import_module("sharedlets." + kind)
            owner = module.Store if name == "news" else module.Shell
            self.assertTrue(inspect.isgeneratorfunction(getattr(owner, name)))

    def test_each_folder_is_a_package(self):
        top = os.path.dirname(sharedlets.__file__)
        for folder, folders, files in os.walk(top):
            folders[:] = [name for name in folders if name != "__pycache__"]
            self.assertIn("__init__.py", files)
            self.assertTrue(all(name.endswith(".py") for name in files))
            self.assertFalse(any(name.startswith("test") for name in files + folders))


if __name__ == "__main__":
    unittest.main()
