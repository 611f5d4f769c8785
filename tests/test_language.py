"""L1 to L28 of LANGUAGE.md: the package keeps to what a script can see of them, and the script does see it."""

import os
import unittest

from checks.language import check_package, read_folder

TOP = os.path.dirname(os.path.dirname(os.path.abspath(__file__)))
INIT = {"__init__.py": '"""A package."""\n'}

GOOD = '''"""A module."""

from frontways.other import Other, Wrong

MOST = 10
NAMES = ["a", "b"]
TABLE = {"a": (1, 2), "b": (3, -4)}


class Thing(Other):
    """Something."""

    def __init__(self, many):
        Other.__init__(self, many)
        self.parts = tuple(many)

    def told(self, name, full=False):
        return [part + TABLE[name][0] for part in self.parts if part != 0]

    def __len__(self):
        return len(self.parts)

    def __str__(self):
        return ", ".join([str(part) for part in self.parts])


def asked(xs, ys):
    if not isinstance(xs, (list, tuple)) or len(set(xs)) != len(xs):
        raise Wrong(f"{xs!r} is out")
    found = {}
    for k, pair in enumerate(zip(xs, ys)):
        found[k] = pair[0] if k in (1, 2) else pair[1]
    for k in list(found):
        found.pop(k)
    for k, value in found.items():
        ys = ys + [k * value ** 2]
    return sorted(ys, key=lambda y: (-y, 0), reverse=True)


def number(text, xs):
    try:
        return int(text)
    except ValueError as e:
        raise Wrong("none") from e


def first(xs):
    try:
        return xs[0]
    except IndexError:
        return None


def names():
    return list(NAMES) + [name for name in NAMES if name is not None]
'''

OTHER = '''class Wrong(ValueError):
    pass


class Other:
    def __init__(self, many):
        self.amount = many
'''


def body(*rows):
    return "def asked(xs, ys):\n" + "".join(f"    {row}\n" for row in rows)


BAD = [
    ("L2", "from frontways.other import *\n"),
    ("L2", "from .other import Other\n"),
    ("L2", "from itertools import product\n"),
    ("L2", body("from frontways.other import Other", "return Other(xs)")),
    ("L2", "MOST = 1\nfrom frontways.other import Other\n"),
    ("L3", "print(1)\n"),
    ("L3", "MOST = 5 + 5\n"),
    ("L3", "for k in (1, 2):\n    pass\n"),
    ("L4", "def asked(*xs):\n    return xs\n"),
    ("L4", "def asked(**xs):\n    return xs\n"),
    ("L4", "def asked(xs, *, ys):\n    return xs\n"),
    ("L4", "def asked(xs, ys=len([])):\n    return xs\n"),
    ("L4", "def other(f):\n    return f\n\n\n@other\ndef asked(xs):\n    return xs\n"),
    ("L5", "class Thing:\n    size = 3\n"),
    ("L5", "class Thing:\n    def __hash__(self):\n        return 1\n"),
    ("L5", "class Thing(object):\n    pass\n"),
    ("L5", "class One:\n    pass\n\n\nclass Two:\n    pass\n\n\nclass Thing(One, Two):\n    pass\n"),
    ("L6", body("with xs:", "    pass")),
    ("L6", body("assert xs")),
    ("L6", body("del xs[0]")),
    ("L6", body("global MOST", "MOST = 1")),
    ("L6", body("for k in xs:", "    pass", "else:", "    pass")),
    ("L6", body("while xs:", "    pass", "else:", "    pass")),
    ("L6", body("try:", "    pass", "finally:", "    pass")),
    ("L6", body("match xs:", "    case 1:", "        pass")),
    ("L6", body("a = b = 1")),
    ("L6", body("xs == ys")),
    ("L7", body("yield xs")),
    ("L7", body("return 1.5")),
    ("L7", body("return xs / ys")),
    ("L7", body("return b'a'")),
    ("L7", body("return {x: 1 for x in xs}")),
    ("L7", body("return len({x for x in xs})")),
    ("L7", body("return any(x for x in xs)")),
    ("L7", body("return (z := xs)")),
    ("L7", body("return [*xs, *ys]")),
    ("L7", body("return {**xs}")),
    ("L7", body("return asked(**xs)")),
    ("L7", body("return [x for x in xs for y in ys]")),
    ("L7", body("return [x for x in xs if x if x > 1]")),
    ("L7", body("return f'{xs[0]}'")),
    ("L7", body("return f'{xs:>3}'")),
    ("L8", body("return map(xs, ys)")),
    ("L8", body("return round(xs)")),
    ("L8", body("print(xs)")),
    ("L8", "def sum(xs):\n    return xs\n"),
    ("L8", body("return xs.format(ys)")),
    ("L10", body(*["xs = ys"] * 40)),
    ("L10", "MOST = 1\n" + "\n" * 400),
    ("L10", body("return 1  # " + "a" * 120)),
    ("L10", "def asked(xs):\n\treturn xs\n"),
    ("L12", body("for _ in xs:", "    pass")),
    ("L12", "def _asked(xs):\n    return xs\n"),
    ("L12", "class Thing:\n    def __init__(self):\n        self._x = 1\n"),
    ("L13", body("ys = {1, 2, 3}", "return ys")),
    ("L13", body("return asked(lambda x: x, lambda x: 1)")),
    ("L14", "# caf\u00e9\n"),
    ("L14", "MOST = 1\r\n"),
    ("L15", "MOST = 1\nMOST = 2\n"),
    ("L15", body("class Thing:", "    pass", "return Thing()")),
    ("L15", "TABLE = [[1], [2]]\n"),
    ("L15", "TABLE = {1: [2]}\n"),
    ("L15", "TABLE = [1]\n\n\ndef asked(x):\n    TABLE.append(x)\n"),
    ("L15", "TABLE = [1]\n\n\ndef asked(x):\n    TABLE[0] = x\n"),
    ("L15", "TABLE = [1]\n\n\ndef asked():\n    return TABLE\n"),
    ("L15", "def asked(id):\n    return 1\n"),
    ("L15", body("next = xs", "return ys")),
    ("L15", "class Thing:\n    pass\n\n\ndef asked(Thing):\n    return 1\n"),
    ("L15", "from frontways.other import Other\n\n\ndef asked():\n    Other = 1\n"),
    ("L16", "import frontways.other\n"),
    ("L16", "from frontways import other\n"),
    ("L16", "from frontways.other import Nothing\n"),
    ("L16", "from frontways.mirror import again\n\n\ndef asked():\n    return again()\n"),
    ("L17", "# its type\n"),
    ("L17", "MOST = 'a dataclasses thing'\n"),
    ("L17", body("return getattr(xs, ys)")),
    ("L17", body("return open(xs)")),
    ("L17", "class Thing:\n    def register(self):\n        return 1\n"),
    ("L17", body("return xs.f_back")),
    ("L18", "class Thing:\n    pass\n\n\ndef asked():\n    return [Thing]\n"),
    ("L18", "class Thing:\n    pass\n\n\ndef asked():\n    Thing.size = 1\n"),
    ("L18", "class Thing:\n    def at(self):\n        return 1\n\n    def at(self):\n        return 2\n"),
    ("L18", "class One:\n    def at(self):\n        return 1\n\n\n"
            "class Two:\n    def __init__(self):\n        self.at = 1\n"),
    ("L18", "class Thing(StopIteration):\n    pass\n"),
    ("L19", body("try:", "    return asked(xs, ys)", "except ValueError:", "    return 1")),
    ("L19", body("try:", "    return xs[len(ys)]", "except IndexError:", "    return 1")),
    ("L19", body("try:", "    return xs[1:2]", "except IndexError:", "    return 1")),
    ("L19", body("try:", "    return xs[0]", "except Exception:", "    return 1")),
    ("L19", body("try:", "    return xs[0]", "except:", "    return 1")),
    ("L19", body("try:", "    return xs[0]", "except KeyError:", "    raise")),
    ("L19", body("z = ValueError('a')", "raise z")),
    ("L20", body("return xs is ys")),
    ("L20", body("return xs is 0")),
    ("L21", body("z: int", "return z")),
    ("L21", body("def within(x: int):", "    return x", "return within")),
    ("L22", body("return asked(len, xs)")),
    ("L22", body("return sorted(xs, key=sorted)")),
    ("L22", body("return sorted(xs, reverse=ys)")),
    ("L22", body("return isinstance(xs, ys.kind)")),
    ("L22", body("return isinstance(xs, set)")),
    ("L22", body("return int(xs, base=2)")),
    ("L22", body("return xs.split(sep=',')")),
    ("L23", body("z = range(3)", "return z")),
    ("L23", body("return xs.items()")),
    ("L23", body("return max(1, range(3))")),
    ("L23", body("for x in reversed(range(3)):", "    pass")),
    ("L23", body("for x in xs:", "    xs.append(x)")),
    ("L23", body("for k, x in enumerate(xs):", "    xs[k] = 1")),
    ("L23", body("for k, x in xs.items():", "    xs.pop(k)")),
    ("L24", body("z = set(xs)", "return z")),
    ("L24", body("for x in set(xs):", "    pass")),
    ("L24", body("return list(set(xs) - set(ys))")),
    ("L25", body("xs.sort()")),
    ("L25", body("return xs.title()")),
    ("L25", "class Thing:\n    def at(self):\n        return 1\n\n\ndef asked(x):\n    return x.at\n"),
    ("L26", "class Thing:\n    def __init__(self):\n        self.items = 1\n"),
    ("L26", "class Thing:\n    def encode(self):\n        return 1\n"),
    ("L27", body("return 2 ** xs")),
    ("L27", body("return 2 ** 65")),
    ("L27", body("return 'a % b'")),
    ("L27", body("return chr(xs)")),
    ("L27", body("return '\\x41'")),
    ("L27", body("return f'\\r{xs}'")),
    ("L28", "class Thing:\n    def __init__(self):\n        return None\n"),
    ("L28", "class Thing:\n    def __len__(self):\n        return self.at() + 1\n"),
    ("L28", "class Thing:\n    def __str__(self):\n        self.seen = 1\n        return 'a'\n"),
]

BAD_FILES = [
    ("L1", "notes.txt"),
    ("L14", "Webs.py"),
    ("L14", "test_webs.py"),
    ("L14", "tests/"),
    ("L14", "filter.py"),
    ("L14", "typing.py"),
    ("L14", "deeper/"),
    ("L14", "deeper/__main__.py"),
]


def rules_broken(text):
    texts = dict(INIT)
    texts["other.py"] = OTHER
    texts["mirror.py"] = "from frontways.thing import asked\n\n\ndef again():\n    return asked()\n"
    texts["thing.py"] = text
    if "mirror" not in text:
        texts.pop("mirror.py")
    return [rule for path, line, rule, told in check_package("frontways", texts)]


class TheCheck(unittest.TestCase):
    def test_lets_good_code_be(self):
        self.assertEqual([], rules_broken(GOOD))

    def test_sees_each_bad_row(self):
        for rule, text in BAD:
            with self.subTest(rule=rule, text=text):
                self.assertIn(rule, rules_broken(text))

    def test_sees_each_bad_file(self):
        for rule, path in BAD_FILES:
            with self.subTest(path=path):
                rows = check_package("frontways", {**INIT, path: ""})
                self.assertIn(rule, [row[2] for row in rows])

    def test_sees_a_missing_init(self):
        self.assertIn("L14", [row[2] for row in check_package("frontways", {"webs.py": ""})])

    def test_sees_an_init_that_binds_a_file(self):
        rows = check_package("frontways", {"__init__.py": "webs = 1\n", "webs.py": ""})
        self.assertIn("L16", [row[2] for row in rows])


class ThePackage(unittest.TestCase):
    def test_lies_at_the_top(self):
        self.assertIn("webs.py", read_folder(os.path.join(TOP, "frontways")))

    def test_keeps_to_the_language(self):
        self.assertEqual([], check_package("frontways", read_folder(os.path.join(TOP, "frontways"))))


if __name__ == "__main__":
    unittest.main()
