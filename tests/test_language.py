import pathlib
import unittest

from tests.language import check

FOLDER = pathlib.Path(__file__).resolve().parent.parent / "strayplates"

# A file that keeps the rules, and then, for each rule, what breaks it when it is put into this file.
GOOD = '''"""A file."""

from strayplates.other import helped

LIMIT = 3
TABLE = {"a": 1}


class Box:
    def __init__(self, rows=()):
        self.rows = tuple(rows)

    def __len__(self):
        return len(self.rows)

    def __iter__(self):
        return iter(self.rows)

    def __add__(self, other):
        return Box(self.rows + other.rows)

    @property
    def many(self):
        return len(self.rows)


def told(rows):
    found = []
    for number, row in enumerate(rows):
        found.append((number, helped(row)))
    return sorted(found)
'''

OTHER = '''"""Another file."""


def helped(row):
    return row
'''

BAD = (
    ("L2", "import sys\n"), ("L2", "from itertools import product\n"), ("L2", "from strayplates.other import *\n"),
    ("L16", "from strayplates.nowhere import thing\n"), ("L16", "from strayplates.other import nothing\n"),
    ("L3", "print(3)\n"), ("L3", "A, B = 1, 2\n"), ("L3", "A = [1] + [2]\n"), ("L3", "A = [[1]]\n"),
    ("L15", "LIMIT = 4\n"), ("L15", "def sum(rows):\n    return rows\n"), ("L15", "def f(id):\n    return id\n"),
    ("L15", "def f(helped):\n    return helped\n"), ("L15", "def f():\n    Box = 1\n    return Box\n"),
    ("L4", "@told\ndef f():\n    return 1\n"), ("L4", "def f(a=[]):\n    return a\n"),
    ("L4", "def f(a=([],)):\n    return a\n"), ("L4", "def f(*, a=(told,)):\n    return a\n"),
    ("L5", "class A(Box, Box):\n    pass\n"), ("L5", "class A:\n    def __hash__(self):\n        return 1\n"),
    ("L5", "class A:\n    def __getitem__(self, at):\n        return at\n"),
    ("L5", "class A:\n    def __iter__(self):\n        for k in (1, 2):\n            yield k\n"),
    ("L5", "class A:\n    def __bool__(self):\n        return 1\n"),
    ("L5", "class A:\n    def __mul__(self, other):\n        self.n = 1\n        return other\n"),
    ("L5", "class A:\n    def __mul__(self, other):\n        other.rows.append(1)\n        return other\n"),
    ("L5", "class A:\n    @property\n    def deep(self):\n        return spoil([])\n\n\n"
           "def spoil(rows):\n    rows.append(1)\n    return rows\n"),
    ("L5", "class A:\n    @property\n    def deep(self):\n        self.n = 1\n        return 2\n\n"
           "    @deep.setter\n    def deep(self, value):\n        self.n = value\n"),
    ("L6", "class A:\n    def __exit__(self, kind, value, trace):\n        self.many = self.rows.pop()\n"),
    ("L6", "def f():\n    global LIMIT\n    return 1\n"), ("L6", "async def f():\n    return 1\n"),
    ("L6", "def f(rows):\n    return sum(row for row in rows)\n"), ("L6", "def f(n):\n    return f'{n}'\n"),
    ("L7", "def f(n):\n    return n / 2\n"), ("L7", "def f():\n    return 1.5\n"),
    ("L7", "def f(rows):\n    return told(*rows[1:])\n"),
    ("L8", "def f(rows):\n    return filter(None, rows)\n"), ("L8", "def f(rows):\n    return print(rows)\n"),
    ("L10", "def f():\n" + "    told(1)\n" * 41), ("L10", "A = \"" + "a" * 130 + "\"\n"),
    ("L12", "def f(_wally):\n    return _wally\n"), ("L12", "def f(__a):\n    return __a\n"),
    ("L12", "def f(rows):\n    for _ in rows:\n        told(_)\n"),
    ("L13", "def f(rows):\n    return told(lambda a: a), told(lambda a: 1)\n"),
    ("L14", "A = \"\u00e9\"\n"), ("L17", "def f(rows):\n    return rows.open\n"), ("L17", "def compile():\n    return 1\n"),
    ("L17", "A = \"the enum\"\n"), ("L17", "# a dataclass\n"),
    ("L18", "def f():\n    return [Box]\n"), ("L18", "def f(box):\n    return box.nothing\n"),
    ("L18", "class A:\n    def a(self):\n        self.a = 1\n"),
    ("L18", "class A:\n    def a(self):\n        return 1\n\n    def a(self):\n        return 2\n"),
    ("L18", "def f(box):\n    box.rows.n = 1\n"),
    ("L19", "def f():\n    try:\n        told(1)\n    except Exception:\n        return 1\n"),
    ("L19", "def f(e):\n    raise e\n"), ("L20", "def f(a, b):\n    return a is b\n"),
    ("L22", "def f(rows):\n    return told(rows, 1)\n"), ("L22", "def f(rows):\n    return told(row=rows)\n"),
    ("L22", "def f(rows):\n    return [len, rows]\n"), ("L22", "def f(rows):\n    return list(rows, key=1)\n"),
    ("L23", "def f(rows):\n    return zip(rows, rows)\n"), ("L23", "def f(rows):\n    k = enumerate(rows)\n    return k\n"),
    ("L23", "def f(rows):\n    for row in rows:\n        rows.append(row)\n"),
    ("L23", "def f(rows):\n    for row in enumerate(rows):\n        rows[0] = row\n"),
    ("L23", "def f(rows):\n    yield rows\n\n\ndef g():\n    return f(1)\n"),
    ("L24", "def f(rows):\n    return set(rows)\n"), ("L24", "def f(rows):\n    return [{k for k in rows}]\n"),
    ("L25", "def f(text):\n    return text.encode()\n"), ("L25", "def f(rows):\n    rows.sort()\n"),
    ("L26", "class A:\n    def __init__(self):\n        self.items = 1\n"),
    ("L26", "class A:\n    def encode(self):\n        return 1\n"),
    ("L27", "A = \"5%\"\n"), ("L27", "A = \"__a__\"\n"), ("L27", "def f(a):\n    return chr(a)\n"),
    ("L28", "class A:\n    def __init__(self):\n        return None\n"),
    ("L28", "class A:\n    def __len__(self):\n        return 1 + 1\n"),
    ("L21", "def f(a: int):\n    return a\n"),
)


class LanguageTest(unittest.TestCase):
    def test_the_package(self):
        files = {path.name: path.read_text(encoding="utf-8") for path in FOLDER.iterdir() if path.is_file()}
        self.assertGreater(len(files), 38)
        self.assertEqual(check(files), [])

    def test_the_folder_has_nothing_else(self):
        names = [path.name for path in FOLDER.iterdir() if path.name != "__pycache__"]
        self.assertEqual([name for name in names if not name.endswith(".py")], [])

    def test_a_good_file(self):
        self.assertEqual(check({"__init__.py": "", "box.py": GOOD, "other.py": OTHER}), [])

    def test_setters(self):
        setter = "\n\nclass A:\n    def __init__(self):\n        self.n = 1\n\n    @property\n    def deep(self):\n" \
                 "        return self.n\n\n    @deep.setter\n    def deep(self, value):\n        self.n = value\n\n\n" \
                 "def deepened(box):\n    box.deep = 3\n    return box\n"
        self.assertEqual(check({"__init__.py": "", "box.py": GOOD + setter, "other.py": OTHER}), [])

    def test_bad_files(self):
        for rule, text in BAD:
            with self.subTest(rule=rule, text=text):
                if text.startswith(("import", "from")):
                    whole = GOOD.replace("LIMIT = 3", text + "\nLIMIT = 3", 1)
                else:
                    whole = GOOD + "\n\n" + text
                found = check({"__init__.py": "", "box.py": whole, "other.py": OTHER})
                self.assertIn(rule, [complaint[2] for complaint in found])

    def test_stars_in_an_index(self):
        for told in ("rows[(*rest, 1)]", "rows[*rest, 1]", "rows[[*rest]]", "rows[0][(*rest,)]", "rows[(1, (2, *rest))]",
                     "rows[told(*rest)]", "rows[rest[(*rest,)]]", "rows[[(k, *rest) for k in rest][0]]", "rows[1:[*rest][0]]",
                     "rows[(lambda a: (*a, 1))(rest)]", "rows[told(**rest)]", "rows[{**rest}]",
                     "rows[(1 if rest else (*rest, 2))]", "rows[-told([*rest])]"):
            for row in (f"return {told}", f"{told} = 1", f"del {told}", f"{told} += 1", f"rows.append([{told}])",
                        f"for k in rest:\n        rows = [{told} for k in rest]"):
                text = f"def f(rows, rest):\n    {row}\n"
                number = 1 + text[:text.index(told)].count("\n")
                found = check({"__init__.py": "", "late.py": text})
                with self.subTest(text=text):
                    self.assertIn(("late.py", number, "L7", "a star in an index"), found)
        for told in ("rows[rest + (1,)]", "(*rest, rows[0])", "[*rows[1:], 1]", "told(*rest)[0]", "[*rest][0]"):
            text = f"def f(rows, rest):\n    return {told}\n"
            self.assertNotIn("a star in an index", [what for _, _, _, what in check({"__init__.py": "", "late.py": text})])

    def test_bad_folders(self):
        for rule, files in (("L14", {"box.py": ""}), ("L1", {"__init__.py": "", "Box.py": ""}),
                            ("L14", {"__init__.py": "", "sum.py": ""}), ("L14", {"__init__.py": "", "test_a.py": ""}),
                            ("L10", {"__init__.py": "\n" * 400}),
                            ("L16", {"__init__.py": "", "a.py": "from strayplates.b import f\n\n\ndef g():\n    return f()\n",
                                     "b.py": "from strayplates.a import g\n\n\ndef f():\n    return g()\n"})):
            self.assertIn(rule, [complaint[2] for complaint in check(files)])


if __name__ == "__main__":
    unittest.main()
