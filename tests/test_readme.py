"""The examples of README.md hold: each value behind a # is what the row ahead of it tells."""

import ast
import os
import re
import unittest

README = os.path.join(os.path.dirname(os.path.dirname(os.path.abspath(__file__))), "README.md")


class TestReadme(unittest.TestCase):

    def test_examples(self):
        with open(README, encoding="utf-8") as file:
            blocks = re.findall(r"```python\n(.*?)```", file.read(), re.S)
        names, tried = {}, 0
        for block in blocks:
            rows = block.split("\n")
            for node in ast.parse(block).body:
                source = ast.get_source_segment(block, node)
                if not isinstance(node, ast.Expr):
                    exec(source, names)
                    continue
                told = eval(source, names)
                expected = rows[node.end_lineno - 1].partition("  # ")[2]
                if expected:
                    self.assertEqual(repr(told), repr(ast.literal_eval(expected.strip())), source)
                    tried += 1
        self.assertGreater(tried, 20)


if __name__ == "__main__":
    unittest.main()
