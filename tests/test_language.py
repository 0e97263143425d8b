import re
import unittest
from pathlib import Path

from language import faults, methods_and_values

FOLDER = Path(__file__).resolve().parent.parent / "doneroom"

OUTSIDE = {
    "L2": "from re import match\n",
    "L3": "print(3)\n",
    "L4": "def f(*xs):\n    return xs\n",
    "L5": "class A:\n    x = 1\n",
    "L6": "def f(x):\n    a, b = x\n    return a\n",
    "L7": "def f(x):\n    return {y for y in x}\n",
    "L8": "def f(x):\n    return hash(x)\n",
    "L10": "x = 1  # " + "x" * 120 + "\n",
    "L12": "def _f(x):\n    return x\n",
    "L14": "# \u00e4\n",
    "L15": "x = 1\nx = 2\n",
    "L17": "# the type of it\n",
    "L19": "def f(x):\n    raise ValueError\n",
    "L20": "def f(x):\n    return x is 3\n",
    "L22": "def f(x):\n    return [len, x]\n",
    "L23": "def f(x):\n    y = reversed(x)\n    return y\n",
    "L24": "def f(x):\n    y = set(x)\n    return y\n",
    "L25": "def f(x):\n    x.sort()\n",
    "L26": "def f(x):\n    x.append = 3\n",
    "L27": "def f(x):\n    return '%'\n",
}


class LanguageTests(unittest.TestCase):
    def test_the_package_keeps_to_the_rules(self):
        files = sorted(FOLDER.glob("*.py"))
        self.assertGreater(len(files), 5)
        for path in files:
            with self.subTest(path=path.name):
                self.assertEqual(faults(path.name, path.read_bytes().decode("utf-8")), [])

    def test_nothing_else_lies_in_the_folder(self):
        for path in FOLDER.iterdir():
            if path.name != "__pycache__":
                self.assertTrue(path.is_file() and re.fullmatch(r"[a-z_0-9]+\.py", path.name), path.name)

    def test_no_two_files_draw_from_one_another(self):
        drawn = {}
        for path in FOLDER.glob("*.py"):
            drawn[path.stem] = re.findall(r"^from doneroom\.(\w+) import", path.read_text(), re.MULTILINE)
        while drawn:
            ready = [name for name in drawn if not any(other in drawn for other in drawn[name])]
            self.assertTrue(ready, drawn)
            for name in ready:
                del drawn[name]

    def test_names_are_drawn_from_where_they_are_defined(self):
        for path in FOLDER.glob("*.py"):
            for module, names in re.findall(r"^from doneroom\.(\w+) import (.*)$", path.read_text(), re.MULTILINE):
                text = (FOLDER / (module + ".py")).read_text()
                for name in names.split(", "):
                    self.assertRegex(text, rf"(?m)^(def {name}\(|class {name}[(:]|{name} = )", path.name)

    def test_no_name_is_a_method_and_a_value(self):
        self.assertEqual(methods_and_values([path.read_text() for path in FOLDER.glob("*.py")]), set())
        clash = "class A:\n    def at(self):\n        return 1\n\n\nclass B:\n    def to(self):\n        self.at = 1\n"
        self.assertEqual(methods_and_values([clash]), {"at"})

    def test_no_local_hides_an_import_or_a_class(self):
        for text in ("from doneroom.a import f\n\n\ndef g(f):\n    return f\n", "class A:\n    pass\n\n\ndef g():\n    A = 1\n"):
            self.assertIn("L15", [fault.split()[1] for fault in faults("x.py", text)])

    def test_code_outside_is_found(self):
        for rule, text in OUTSIDE.items():
            with self.subTest(rule=rule):
                self.assertIn(rule, [fault.split()[1] for fault in faults("x.py", text)])


if __name__ == "__main__":
    unittest.main()
