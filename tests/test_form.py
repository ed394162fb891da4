"""The interface of the modules, and the form of their files."""

import ast
import pathlib
import unittest

import everylevel

FOLDER = pathlib.Path(everylevel.__file__).parent

# Of each module: its functions and classes with the parameters, its methods with theirs.
INTERFACE = {
    "errors": {
        "LevelError": None, "InvalidLevel": None, "InvalidDemand": None, "InvalidBook": ["word"],
        "InvalidText": ["at"], "InvalidNumbers": ["at"], "InvalidDefinition": ["word"],
        "InvalidLibrary": ["at"], "InvalidCommand": None, "NoDemand": ["at"], "Clash": ["at"],
        "NoName": ["name"],
    },
    "levels": {
        "names_of": ["level"], "value": ["level", "numbers"], "put_for": ["level", "others"],
        "atoms": ["level", "zeros"], "never_above": ["one", "other"], "alike": ["one", "other"],
        "parting": ["one", "other"],
    },
    "books": {
        "Book": ["names", "demands"], "Book.is_plain": [], "Book.reach": [], "Book.with_demand": ["demand"],
        "Book.but": ["at"], "Book.broken": ["numbers"], "Book.keeps": ["numbers"], "Book.read": ["text"],
        "Book.__len__": [], "Book.__eq__": ["other"], "Book.__str__": [],
    },
    "solutions": {
        "can_be": ["book"], "some_numbers": ["book"], "highest": ["book", "tops"], "lowest": ["book"],
        "span": ["book", "name"],
    },
    "following": {
        "follows": ["book", "demand"], "counter": ["book", "demand"], "excess": ["book", "level", "other"],
        "no_wider": ["one", "other"], "unlike": ["one", "other"], "denials": ["demand"],
    },
    "papers": {"bounds": ["book", "zeros"], "paper": ["book"], "paper_holds": ["book", "value"]},
    "leaving": {"without": ["book", "names"], "joined": ["one", "other"], "between": ["one", "other"]},
    "clashes": {"least_clashes": ["book"], "struck": ["book"], "needless": ["book"]},
    "definitions": {
        "Definition": ["name", "params", "inner", "demands", "calls"], "Definition.__eq__": ["other"],
        "Library": ["definitions"], "Library.lets": ["name", "numbers"], "Library.face": ["name"],
        "Library.fits": ["name", "book", "levels"], "Library.stuck": [], "Library.__len__": [],
    },
    "live": {
        "Live": ["names"], "Live.book": [], "Live.demand": ["demand"], "Live.drop": ["at"], "Live.undo": [],
        "Live.within": ["work"], "Live.__len__": [],
    },
    "desk": {"Desk": [], "Desk.say": ["command"]},
}


def parameters(function):
    return [argument.arg for argument in function.args.args]


def defined(module):
    """The parameters of what a module itself defines, by its names."""
    found = {}
    for thing in ast.parse((FOLDER / f"{module}.py").read_text(encoding="ascii")).body:
        if isinstance(thing, ast.FunctionDef):
            found[thing.name] = parameters(thing)
        elif isinstance(thing, ast.ClassDef):
            found[thing.name] = None
            for method in thing.body:
                if isinstance(method, ast.FunctionDef):
                    name = thing.name if method.name == "__init__" else f"{thing.name}.{method.name}"
                    found[name] = parameters(method)[1:]
    return found


class Interface(unittest.TestCase):

    def test_each_name_is_defined_in_its_module(self):
        for module, names in INTERFACE.items():
            found = defined(module)
            for name, wanted in names.items():
                self.assertIn(name, found, module)
                self.assertEqual(found[name], wanted, name)

    def test_empty_but_for_a_docstring(self):
        body = ast.parse((FOLDER / "__init__.py").read_text(encoding="ascii")).body
        self.assertEqual(len(body), 1)
        self.assertIsInstance(body[0].value.value, str)


class Files(unittest.TestCase):

    def test_only_files_of_python(self):
        for path in FOLDER.iterdir():
            self.assertTrue(path.suffix == ".py" or path.name == "__pycache__", path.name)

    def test_sizes_and_characters(self):
        for path in FOLDER.glob("*.py"):
            text = path.read_text(encoding="ascii")
            self.assertLessEqual(len(text.splitlines()), 399, path.name)
            for line in text.split("\n"):
                self.assertLessEqual(len(line), 120, path.name)
                self.assertTrue(all([" " <= character <= "~" for character in line]), line)

    def test_functions_are_small(self):
        for path in FOLDER.glob("*.py"):
            for thing in ast.walk(ast.parse(path.read_text(encoding="ascii"))):
                if isinstance(thing, ast.FunctionDef):
                    self.assertLessEqual(thing.end_lineno - thing.lineno, 39, thing.name)

    def test_imports_are_of_the_package(self):
        for path in FOLDER.glob("*.py"):
            for thing in ast.walk(ast.parse(path.read_text(encoding="ascii"))):
                self.assertNotIsInstance(thing, ast.Import, path.name)
                if isinstance(thing, ast.ImportFrom):
                    known = thing.module.startswith("everylevel.") or thing.module in ("heapq", "math", "itertools", "collections")
                    self.assertTrue(known, thing.module)


if __name__ == "__main__":
    unittest.main()
