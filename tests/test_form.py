"""The form check finds rows that hand over what they change, and lets the others stand."""

import importlib.util
import pathlib
import tempfile
import textwrap
import unittest

PATH = pathlib.Path(__file__).resolve().parent.parent / ".ci" / "form.py"
SPEC = importlib.util.spec_from_file_location("form", PATH)
FORM = importlib.util.module_from_spec(SPEC)
SPEC.loader.exec_module(FORM)

# Each of these hands over what it changes, or an item of it, in its last row.
BREACHES = (
    "ways[1] += ways[0]",
    "ways[0] += ways",
    "ways += ways",
    "ways += ways[0]",
    "ways |= ways",
    "ways.extend(ways)",
    "ways.update(ways)",
    "ways[0].extend(ways[1])",
    "ways[0][1] += ways[1][0]",
    "ways.extend(ways[0][1])",
    "web.rows[0] += web.rows[1]",
    "web.rows.extend(web)",
    "ways += ways if many else web",
    "ways += web or ways",
    "ways.extend(enumerate(ways))",
    "ways.extend(zip(web, ways))",
    "ways.extend(row for row in ways)",
    "ways[0] += max(ways)",
    "ways[0] += ways.get(1, 0)",
    "ways.setdefault(0, []).extend(ways[1])",
    "ways.extend(ways.items())",
    "ways.extend(steps_of(ways))",
    "first = ways[0]\nways[1] += first",
    "first, other = ways\nways[0] += other",
    "first, other = ways[0], web\nways[1] += first",
    "same = ways\nways.extend(same)",
    "for row in ways:\n    ways[0] += row",
    "for row in ways[1:]:\n    ways[0].extend(row)",
    "for at, row in enumerate(ways):\n    row.extend(ways[0])",
    "def inner():\n    ways.extend(ways)",
)
# None of these does.
RIGHT = (
    "ways[1] = ways[1] + ways[0]",
    "ways[0] += 1",
    "ways[0] += len(ways)",
    "ways[0] += many[0]",
    "ways[0] -= ways[1]",
    "ways += [ways[0]]",
    "ways.extend([row for row in ways])",
    "ways.extend(list(ways))",
    "ways.extend(ways[::-1])",
    "ways.extend(ways[1:] if many else web)",
    "ways.extend(sorted(ways))",
    "copied = ways[1:]\nways.extend(copied)",
    "web.rows += web.others",
    "web.rows.extend(many)",
    "ways.append(ways[0])",
    "for row in ways:\n    many.extend(row)",
    "for at in range(len(ways)):\n    ways[at] += at",
    "first, other = ways[0], web\nways[1] += other",
)


def breaches_in(rows):
    """The breaches of L5 that are found in a package of one function with these rows."""
    with tempfile.TemporaryDirectory() as folder:
        text = ("def steps_of(rows):\n    for row in rows:\n        yield row\n\n\n"
                + "def work(ways, web, many):\n" + textwrap.indent(rows, "    ") + "\n")
        (pathlib.Path(folder) / "some.py").write_text(text, encoding="utf-8")
        found = FORM.Checker(pathlib.Path(folder)).check_all()
        return [breach for breach in found if breach.startswith("L5 ")], text.count("\n")


class TestHandedOver(unittest.TestCase):
    def test_breaches(self):
        for rows in BREACHES:
            with self.subTest(rows):
                found, last = breaches_in(rows)
                self.assertEqual(len(found), 1)
                self.assertIn(f"some.py:{last}: ", found[0])

    def test_right_rows(self):
        for rows in RIGHT:
            with self.subTest(rows):
                self.assertEqual(breaches_in(rows)[0], [])

    def test_the_package(self):
        self.assertEqual(FORM.Checker(FORM.ROOT / FORM.NAME).check_all(), [])
