"""The examples of README.md give the results that stand behind them."""

import unittest
from pathlib import Path

README = Path(__file__).resolve().parent.parent / "README.md"


class Examples(unittest.TestCase):
    def test_results(self):
        block = README.read_text("utf-8").split("```python\n")[1].split("```")[0]
        known = {}
        compared = 0
        for line in block.splitlines():
            code, mark, result = line.partition("  # ")
            if mark:
                self.assertEqual(eval(code, known), eval(result), line)
                compared += 1
            else:
                exec(code, known)
        self.assertEqual(compared, 29)


if __name__ == "__main__":
    unittest.main()
