"""What README.md shows is so."""

import os
import re
import unittest

README = os.path.join(os.path.dirname(os.path.dirname(os.path.abspath(__file__))), "README.md")


class Readme(unittest.TestCase):

    def test_what_is_shown(self):
        with open(README, encoding="utf-8") as opened:
            code = "\n".join(re.findall(r"```python\n(.*?)```", opened.read(), re.DOTALL))
        names, shown = {}, 0
        # A comment behind a row is what the row tells.
        for rows, told in re.findall(r"((?:(?!# ).*\n)*?)# (.*)\n", code):
            head, _, last = ("\n" + rows.rstrip("\n")).rpartition("\n")
            exec(head, names)
            if " = " in last.split("(")[0]:
                exec(last, names)
                last = last.partition(" = ")[0]
            self.assertEqual(repr(eval(last, names)), told)
            shown += 1
        self.assertGreater(shown, 7)
