"""What README.md shows is what the program tells."""

import ast
import re
import unittest
from pathlib import Path

README = Path(__file__).resolve().parent.parent / "README.md"


def shown(comment):
    """The value that a comment begins with, in a list, or an empty one where it is words alone."""
    for end in range(len(comment), 0, -1):
        try:
            return [ast.literal_eval(comment[:end].strip())]
        except (SyntaxError, ValueError):
            continue
    return []


class TestReadme(unittest.TestCase):
    def test_answers(self):
        text = README.read_text()
        names = {}
        many = 0
        for block in re.findall("```python\n(.*?)```", text, re.S):
            rows = block.split("\n")
            for node in ast.parse(block).body:
                if not isinstance(node, ast.Expr):
                    exec(compile(ast.Module([node], []), str(README), "exec"), names)
                    continue
                value = eval(compile(ast.Expression(node.value), str(README), "eval"), names)
                wanted = shown(rows[node.end_lineno - 1][node.end_col_offset:].partition("#")[2])
                if wanted:
                    self.assertEqual(value, wanted[0], rows[node.end_lineno - 1])
                    many += 1
        self.assertGreater(many, 20)


if __name__ == "__main__":
    unittest.main()
