"""The examples of README.md: what stands behind "#" is what the line tells."""

import ast
import pathlib
import re

from tests.base import Case

TEXT = (pathlib.Path(__file__).resolve().parent.parent / "README.md").read_text(encoding="utf-8")


class TestExamples(Case):
    def test_every_example(self):
        names, told = {}, 0
        for block in re.findall("```python\n(.*?)```", TEXT, re.S):
            for statement in ast.parse(block).body:
                source = ast.get_source_segment(block, statement)
                if not isinstance(statement, ast.Expr):
                    exec(source, names)
                    continue
                value = eval(source, names)
                comment = block.split("\n")[statement.end_lineno - 1][statement.end_col_offset:]
                if "#" in comment:
                    self.exactly(value, ast.literal_eval(comment.split("#", 1)[1].strip()))
                    told += 1
        self.assertTrue(told > 10)
