import ast
import pathlib
import unittest

from tests.language import OWN_VALUES, defined, drawn, faults, methods, values

FOLDER = pathlib.Path(__file__).resolve().parent.parent / "emptierbox"

OUTSIDE = [
    "import os", "from os import path", "from .errors import NoBall", "from emptierbox.errors import *", "k = len([])",
    "k = 1\nk = 2", "def f(*xs):\n    return xs", "def f(**xs):\n    return xs", "def f(k, /):\n    return k",
    "class A:\n    k = 1", "@f\ndef g():\n    pass", "def f():\n    yield 1", "def f():\n    global k",
    "def f(xs):\n    with xs:\n        pass", "def f(xs):\n    return all(x for x in xs)", "def f():\n    return 1 / 2",
    "def f():\n    return 1.5", "def f(k):\n    return (j := k)", "def f(x):\n    return f'{x:3}'",
    "def f(xs):\n    for x in xs:\n        pass\n    else:\n        pass", "def f(x):\n    return type(x)",
    "def f(k):\n    return 2 ** k", "def f(x):\n    return x is f", "def f(x):\n    return x is 1",
    "def f(xs):\n    seen = set(xs)\n    return seen", "def f(xs):\n    return [x for x in {x for x in xs}]",
    "def f(x):\n    return x.format(1)", "def f(x):\n    return hash(x)", "def f(min):\n    return min",
    "def f():\n    _k = 1", "def f(xs):\n    return sorted(xs, cmp=1)", "# a type",
    "def f():\n    return '%'", "def f():\n    return '\\x41'", "def f():\n    return 1" + "\n" * 401,
    "# " + "x" * 120, "# \u00e4", "def f():\n\treturn 1", "def f():\n" + "    k = 1\n" * 40,
    "def f():\n    import os", "for k in [1]:\n    pass", "def f(*, print):\n    pass",
    "from emptierbox.shares import share\n\ndef f(share):\n    return share",
    "def f(xs):\n    map = xs\n    return map",
    "from emptierbox.shares import share\n\ndef f(xs):\n    return [share for share in xs]",
    "def f(xs):\n    for x in xs:\n        xs.append(x)",
    "def f(xs):\n    for k, x in enumerate(xs):\n        xs[k] = 1",
    "class A:\n    def f(self):\n        return 1\n\n    def f(self):\n        return 2",
    "class A:\n    def decode(self):\n        return 1", "def f(x):\n    return x.decode()",
    "class A(B, C):\n    pass", "def f(x):\n    return getattr(x, 'y')", "def f():\n    return b'a'",
]


def texts():
    return {path.stem: path.read_text(encoding="ascii") for path in sorted(FOLDER.glob("*.py"))}


class Language(unittest.TestCase):
    def test_each_file_keeps_to_the_language(self):
        for name, text in texts().items():
            self.assertEqual(faults(text), [], name)

    def test_what_lies_outside_is_told(self):
        for text in OUTSIDE:
            self.assertNotEqual(faults(text), [], text)

    def test_nothing_else_lies_in_the_package(self):
        for path in FOLDER.iterdir():
            if path.name != "__pycache__":
                self.assertRegex(path.name, r"^([a-z][a-z0-9_]*|__init__)\.py$")
        self.assertIn("__init__", texts())

    def test_names_are_drawn_from_the_file_that_defines_them(self):
        trees = {name: ast.parse(text) for name, text in texts().items()}
        for name, tree in trees.items():
            for other, names in drawn(tree).items():
                self.assertEqual([one for one in names if one not in defined(trees[other])], [], name)

    def test_no_two_files_draw_from_one_another(self):
        below = {name: sorted(drawn(ast.parse(text))) for name, text in texts().items()}
        while below:
            free = [name for name, others in below.items() if not any(other in below for other in others)]
            self.assertTrue(free, f"drawn in a ring: {sorted(below)}")
            for name in free:
                del below[name]

    def test_no_name_is_a_method_and_a_value(self):
        trees = [ast.parse(text) for text in texts().values()]
        own = {name for tree in trees for name in methods(tree)}
        given = {name for tree in trees for name in values(tree)[0]}
        asked = {name for tree in trees for name in values(tree)[1]}
        self.assertEqual(own & given, set())
        self.assertEqual(asked - given, set())
        self.assertEqual([name for name in given if any(hasattr(one, name) for one in OWN_VALUES)], [])
        self.assertLess({"put", "leave", "back", "where", "stand", "load", "say"}, own)


if __name__ == "__main__":
    unittest.main()
