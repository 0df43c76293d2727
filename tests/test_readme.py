"""What README.md shows is what the program tells."""

import ast
import re
import unittest
from pathlib import Path

README = Path(__file__).resolve().parent.parent / "README.md"


class Readme(unittest.TestCase):
    def test_its_rows_tell_what_stands_behind_them(self):
        blocks = re.findall(r"```python\n(.*?)```", README.read_text(encoding="utf-8"), re.S)
        names = {}
        shown = 0
        for row in "".join(blocks).splitlines():
            code, sign, wanted = row.partition("  # ")
            if sign:
                shown += 1
                self.assertEqual(eval(code, names), ast.literal_eval(wanted), row)
            else:
                exec(row, names)
        self.assertGreater(shown, 25)


if __name__ == "__main__":
    unittest.main()
