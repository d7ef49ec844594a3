"""The interface as it must stand in the files, and the plainest rules for these files."""

import ast
import builtins
import importlib
import inspect
import os
import unittest

import oncemail

FOLDER = os.path.dirname(oncemail.__file__)
LIBRARY = ("heapq", "math", "itertools", "collections", "__future__")

FUNCTIONS = {
    "names": {"is_house": ["thing"], "is_name": ["thing"], "is_device": ["thing"], "is_flag": ["thing"],
              "are_flags": ["thing"], "are_uids": ["thing"], "is_deed": ["thing"], "completed": ["letters"]},
    "addresses": {"read_address": ["text"], "write_address": ["address"], "read_addresses": ["text"],
                  "write_addresses": ["addresses"]},
    "codings": {"write_coding": ["text"], "read_coding": ["lines"]},
    "letters": {"is_letter": ["thing"], "read_letter": ["text"], "write_letter": ["letter"], "size_of": ["letter"]},
    "contents": {"headers_of": ["letter", "name"], "writer_of": ["letter"], "addresses_of": ["letter", "name"],
                 "id_of": ["letter"], "references_of": ["letter"], "content_of": ["letter"], "terms_in": ["text"],
                 "terms_of": ["letter", "where"], "outline": ["letter"], "part_of": ["letter", "path"],
                 "answer_to": ["letter", "address", "word", "lines"]},
    "threads": {"row_of": ["uid", "letter"], "forest": ["rows"], "names_of": ["rows", "uid"],
                "path_of": ["rows", "uid"], "below": ["rows", "uid"]},
    "queries": {"is_query": ["thing"], "read_query": ["text"], "write_query": ["query"]},
    "meaning": {"holds": ["query", "record", "names"]},
    "samples": {"apart": ["one", "other"]},
    "index": {"read_index": ["text"]},
    "filters": {"is_filter": ["thing"], "read_filter": ["text"], "write_filter": ["sieve"],
                "run_filter": ["sieve", "letter", "turn"]},
    "shorter": {"filters_apart": ["one", "other"], "reached": ["sieve", "place"], "shorten": ["sieve"]},
    "boxes": {"new_box": [], "signs_of": ["box"], "record_of": ["box", "uid"], "has_room": ["box", "sizes"],
              "put_in": ["box", "rows"], "flagged": ["box", "uids", "mode", "flags"], "taken_out": ["box", "uids"]},
    "store": {"store_of": ["state"]},
    "plain": {"show_plain": ["value"], "read_plain": ["text"]},
    "journal": {"journal_line": ["n", "entry"], "read_journal": ["text"]},
    "talk": {"read_number": ["word"], "read_box": ["word"], "read_uids": ["word"], "read_flags": ["word"],
             "show_uids": ["uids"], "show_flags": ["flags"], "show_value": ["value"], "say": ["words", "literal"]},
    "commands": {"deed_of": ["words", "literal"], "words_of": ["deed"]},
    "house": {"first_line": ["name", "users", "groups", "houses"], "house_of": ["text"]},
    "device": {"device_of": ["text"]},
    "world": {"world_of": ["text"]},
}
CLASSES = {
    "errors": {"MailError": None, "BadLetter": ["line", "reason"], "BadQuery": ["place", "reason"],
               "BadFilter": ["line", "reason"], "BadText": ["reason"], "BadPlain": ["place"], "BadHouse": ["reason"],
               "BadLine": ["reason"], "BadTurn": None, "BadDeed": ["reason"]},
    "forests": {"Forest": []},
    "index": {"Index": []},
    "store": {"Store": ["users"]},
    "talk": {"Listener": ["most"]},
    "house": {"House": None},
    "device": {"Device": ["user", "name", "life"]},
    "world": {"World": ["houses", "devices"]},
}
METHODS = {
    "Forest": {"put": ["uid", "word", "references"], "take": ["uid"], "rows": [], "trees": [], "names": ["uid"],
               "path": ["uid"], "below": ["uid"], "branch": []},
    "Index": {"put": ["record"], "take": ["uid"], "uids": [], "rows": ["term"], "terms": [], "names": ["uid"],
              "search": ["query"], "outcomes": ["sieve"], "text": []},
    "Store": {"do": ["turn", "user", "deed", "values"], "boxes": ["user"], "look": ["user", "number"],
              "since": ["user", "number", "change"], "letter": ["user", "number", "uid"], "records": ["user", "number"],
              "file": ["turn", "user", "pairs", "letter"], "notice": ["turn", "user", "letter"],
              "next_number": ["user"], "number_of": ["user", "name"], "filter_of": ["user"], "state": [],
              "branch": []},
    "Listener": {"hear": ["text"], "faulty": []},
    "House": {"attach": ["mark", "who"], "detach": ["mark"], "hear": ["mark", "text"], "work": ["turn"], "say": [],
              "short": [], "name": [], "waiting": [], "store": [], "fates": ["user"]},
    "Device": {"do": ["deed"], "begin": [], "leave": [], "hear": ["text"], "say": [], "state": [], "waits": [],
               "unsettled": [], "answers": [], "forget": ["number"], "boxes": [], "kept": ["number"],
               "shown": ["number"], "search": ["number", "query"], "text": []},
    "World": {"turn": ["fates"], "now": [], "device": ["house", "user", "name"], "store": ["house"],
              "fates": ["house", "user"], "waiting": ["house"], "journal": ["house"], "shorten": ["house"], "lines": [],
              "text": []},
}


def tree_of(module):
    with open(os.path.join(FOLDER, module + ".py"), encoding="ascii") as held:
        return ast.parse(held.read())


def package_files():
    for folder, _, names in os.walk(FOLDER):
        for name in names:
            if not folder.endswith("__pycache__"):
                yield os.path.join(folder, name)


class Interface(unittest.TestCase):
    def test_functions_are_defined_where_they_are_listed(self):
        for module, functions in FUNCTIONS.items():
            defined = [node.name for node in tree_of(module).body if isinstance(node, ast.FunctionDef)]
            for name, parameters in functions.items():
                with self.subTest(module=module, name=name):
                    self.assertIn(name, defined)
                    call = getattr(importlib.import_module(f"oncemail.{module}"), name)
                    self.assertEqual(list(inspect.signature(call).parameters), parameters)

    def test_classes_are_defined_where_they_are_listed(self):
        for module, classes in CLASSES.items():
            defined = [node.name for node in tree_of(module).body if isinstance(node, ast.ClassDef)]
            for name, parameters in classes.items():
                with self.subTest(module=module, name=name):
                    self.assertIn(name, defined)
                    made = getattr(importlib.import_module(f"oncemail.{module}"), name)
                    if parameters is not None:
                        self.assertEqual(list(inspect.signature(made.__init__).parameters)[1:], parameters)
                    for method, wanted in METHODS.get(name, {}).items():
                        self.assertIn(method, vars(made))
                        self.assertEqual(list(inspect.signature(vars(made)[method]).parameters)[1:], wanted)


class Files(unittest.TestCase):
    def test_the_folder_holds_only_files_of_python(self):
        for path in package_files():
            self.assertTrue(path.endswith(".py"), path)

    def test_sizes_and_signs(self):
        for path in package_files():
            with open(path, encoding="ascii") as held:
                text = held.read()
            lines = text.split("\n")
            self.assertLessEqual(text.count("\n"), 399, path)
            self.assertLessEqual(max(map(len, lines)), 120, path)
            self.assertTrue(all(sign == "\n" or " " <= sign <= "~" for sign in text), path)
            for node in ast.walk(ast.parse(text)):
                if isinstance(node, ast.FunctionDef):
                    self.assertLessEqual(node.end_lineno - node.lineno + 1, 40, f"{path}: {node.name}")

    def test_imports(self):
        for path in package_files():
            with open(path, encoding="ascii") as held:
                tree = ast.parse(held.read())
            for node in ast.walk(tree):
                if isinstance(node, ast.Import):
                    self.assertTrue(path.endswith("__main__.py"), path)
                if isinstance(node, ast.ImportFrom):
                    self.assertEqual(node.level, 0, path)
                    self.assertIn(node.module.split(".")[0], ("oncemail",) + LIBRARY, path)

    def test_imports_name_the_file_that_defines_the_name_and_make_no_ring(self):
        trees = {os.path.basename(path)[:-3]: tree_of(os.path.basename(path)[:-3]) for path in package_files()}
        above = {}
        for module, tree in trees.items():
            used = {node.id for node in ast.walk(tree) if isinstance(node, ast.Name)}
            above[module] = set()
            for node in tree.body:
                if isinstance(node, ast.ImportFrom):
                    source = node.module.split(".")[1]
                    above[module].add(source)
                    for alias in node.names:
                        self.assertIn(alias.name, names_bound(trees[source]), module)
                        self.assertIsNone(alias.asname, module)
                        self.assertIn(alias.name, used, module)
        while above:
            free = [module for module in above if not above[module] & set(above)]
            self.assertTrue(free, above)
            for module in free:
                del above[module]

    def test_tables_hold_functions_of_their_own_file(self):
        for path in package_files():
            tree = tree_of(os.path.basename(path)[:-3])
            imported = {alias.name for node in tree.body if isinstance(node, ast.ImportFrom) for alias in node.names}
            for node in tree.body:
                if isinstance(node, ast.Assign):
                    found = {inner.id for inner in ast.walk(node.value) if isinstance(inner, ast.Name)}
                    self.assertEqual(found & imported, set(), path)

    def test_no_name_has_two_meanings(self):
        for path in package_files():
            tree = tree_of(os.path.basename(path)[:-3])
            bound = {alias.name for node in tree.body if isinstance(node, ast.ImportFrom) for alias in node.names}
            bound |= {node.name for node in tree.body if isinstance(node, ast.ClassDef)} | set(dir(builtins))
            for node in ast.walk(tree):
                names = []
                if isinstance(node, ast.Name) and isinstance(node.ctx, ast.Store):
                    names = [node.id]
                elif isinstance(node, ast.FunctionDef):
                    names = [arg.arg for arg in node.args.args]
                self.assertEqual([name for name in names if name in bound and name != "_"], [], path)
            for node in ast.walk(tree):
                if isinstance(node, ast.ClassDef):
                    methods = {inner.name for inner in node.body if isinstance(inner, ast.FunctionDef)}
                    stored = {inner.attr for inner in ast.walk(node) if isinstance(inner, ast.Attribute)
                              and isinstance(inner.ctx, ast.Store)}
                    self.assertEqual(methods & stored, set(), f"{path}: {node.name}")


def names_bound(tree):
    """The functions, classes and names that a file defines."""
    names = {node.name for node in tree.body if isinstance(node, (ast.FunctionDef, ast.ClassDef))}
    for node in tree.body:
        if isinstance(node, ast.Assign):
            names |= {target.id for target in node.targets}
    return names


if __name__ == "__main__":
    unittest.main()
