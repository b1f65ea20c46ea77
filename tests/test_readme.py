"""The lines of README.md do what stands behind them."""

import ast
import contextlib
import io
import pathlib
import re
import unittest

README = pathlib.Path(__file__).resolve().parent.parent / "README.md"


class Readme(unittest.TestCase):

    def test_the_lines_do_what_stands_behind_them(self):
        names, judged = {}, 0
        for block in re.findall(r"```python\n(.*?)```", README.read_text(), re.S):
            lines = block.split("\n")
            for statement in ast.parse(block).body:
                source = ast.get_source_segment(block, statement)
                told = lines[statement.end_lineno - 1].partition("  # ")[2]
                with contextlib.redirect_stdout(io.StringIO()):
                    if not isinstance(statement, ast.Expr):
                        exec(source, names)
                        continue
                    value = repr(eval(source, names))
                if told[:1] in ("[", "(", "'") or told[:4] in ("True", "Fals") or told[:1].isdigit():
                    if "second.after" not in told:
                        judged += 1
                        self.assertTrue(told == value or re.match(re.escape(value) + "[:;]", told), f"{source}: {value}")
        self.assertGreater(judged, 30)


if __name__ == "__main__":
    unittest.main()
