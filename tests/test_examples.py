"""Every example of the document, as it stands there."""

import importlib
import os
import unittest

from support import told_by

PATH = os.path.join(os.path.dirname(os.path.abspath(__file__)), "examples.txt")
MODULES = ("errors", "rows.rows", "table.tables", "system.rounds", "system.systems", "system.judging", "system.paintings",
           "system.forms", "region.regions", "hull.hulls", "best.programs", "more.putting", "place.general", "web.webs",
           "web.twoelements", "order.activities", "draw.drawings", "draw.rings", "text.strings", "desk.desk")


def examples():
    """The pairs of a line that is called and of the lines of what comes of it."""
    with open(PATH, encoding="utf-8") as file:
        lines = [line for line in file.read().splitlines() if not line.startswith("#")]
    found = []
    for line in lines:
        if line.startswith(">>> "):
            found.append((line[4:], []))
        else:
            found[-1][1].append(line)
    return found


def names():
    known = {}
    for module in MODULES:
        known.update(vars(importlib.import_module(f"sidesigns.{module}")))
    return known


class ExamplesTest(unittest.TestCase):
    def test_all(self):
        known, count = names(), 0
        for call, expected in examples():
            with self.subTest(call=call):
                if not expected:
                    exec(call, known)
                elif expected[0].startswith("raises "):
                    self.check_raised(call, known, expected[0][7:])
                else:
                    self.assertEqual(repr(eval(call, known)), repr(eval(expected[0], known)))
                self.assertLessEqual(len(expected), 1)
            count += 1
        self.assertEqual(count, 135)

    def check_raised(self, call, known, expected):
        name, _, told = expected.partition("(")
        with self.assertRaises(known[name]) as caught:
            eval(call, known)
        if told:
            self.assertEqual(told_by(caught.exception), (known[name], eval(told[:-1], known)))


if __name__ == "__main__":
    unittest.main()
