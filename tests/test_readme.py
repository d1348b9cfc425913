"""What README.md shows is what the program tells."""

import pathlib
import re
import unittest

README = pathlib.Path(__file__).resolve().parent.parent / "README.md"


class Readme(unittest.TestCase):
    def test_each_row_with_an_answer_behind_it(self):
        names, seen = {}, 0
        for block in re.findall(r"```python\n(.*?)```", README.read_text(), re.DOTALL):
            for row in block.splitlines():
                code, sign, answer = row.partition("  # ")
                if sign:
                    seen += 1
                    told = repr(eval(code.strip(), names))
                    self.assertTrue(answer == told or answer.startswith(told + ","), (row, told))
                else:
                    exec(row, names)
        self.assertGreater(seen, 20)
