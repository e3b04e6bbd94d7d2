"""What README.md says that calls tell."""

import ast
import re
import unittest
from pathlib import Path

README = Path(__file__).resolve().parent.parent / "README.md"


class Readme(unittest.TestCase):
    def test_each_call_tells_what_stands_behind_it(self):
        names, answers = {}, 0
        for block in re.findall(r"```python\n(.*?)```", README.read_text(encoding="utf-8"), re.S):
            rows = block.split("\n")
            for node in ast.parse(block).body:
                # Behind the code, or, where that is too long, in a row below that has nothing else.
                near = rows[node.end_lineno - 1:node.end_lineno] + [row for row in rows[node.end_lineno:][:1] if row.startswith("  ")]
                told = [row.partition("  # ")[2].strip() for row in near if "  # " in row]
                if isinstance(node, ast.Expr) and told:
                    value = eval(compile(ast.Expression(node.value), "README.md", "eval"), names)
                    self.assertEqual(repr(value), told[0])
                    answers += 1
                else:
                    exec(compile(ast.Module([node], []), "README.md", "exec"), names)
        self.assertGreater(answers, 30)
