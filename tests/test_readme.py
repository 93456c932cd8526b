"""That what README.md shows of the program can be done, and that what it says behind # comes of it."""

import ast
import contextlib
import io
import pathlib
import re
import unittest

README = pathlib.Path(__file__).resolve().parent.parent / "README.md"


def blocks():
    return re.findall(r"```python\n(.*?)```", README.read_text(encoding="utf-8"), re.DOTALL)


def said_behind(rows, node):
    """What a comment behind a question says comes of it, None where it says nothing."""
    code, sign, said = rows[node.end_lineno - 1].partition("  # ")
    place = node.end_lineno
    while sign and place < len(rows) and rows[place].strip().startswith("# "):
        said += " " + rows[place].strip()[2:].strip()
        place += 1
    return said.strip() if sign else None


class Shown(unittest.TestCase):
    def test_each_block_can_be_done(self):
        known, compared = {}, 0
        for block in blocks():
            rows = block.split("\n")
            for node in ast.parse(block).body:
                with self.subTest(ast.unparse(node)), contextlib.redirect_stdout(io.StringIO()):
                    if not isinstance(node, ast.Expr):
                        exec(ast.unparse(node), known)
                        continue
                    answer, said = repr(eval(ast.unparse(node), known)), said_behind(rows, node)
                    if said is not None and said.startswith(answer[:9]):
                        self.assertEqual(said[:len(answer)], answer)
                        compared += 1
        self.assertGreater(compared, 40)


if __name__ == "__main__":
    unittest.main()
