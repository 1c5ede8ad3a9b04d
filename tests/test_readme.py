"""The code of README.md, line by line: what stands behind it as a comment is what it gives."""

import ast
import io
import unittest
from contextlib import redirect_stdout
from pathlib import Path

README = Path(__file__).resolve().parent.parent / "README.md"


def blocks():
    return [part.split("```")[0] for part in README.read_text().split("```python\n")[1:]]


def comment_of(lines, node):
    """The comment that stands behind the last line of a statement, or alone on the next one."""
    line = lines[node.end_lineno - 1][node.end_col_offset:].strip()
    below = lines[node.end_lineno] if node.end_lineno < len(lines) else ""
    return (line or (below if below.startswith("# ") else "")).removeprefix("# ")


class Readme(unittest.TestCase):
    def test_code(self):
        names = {}
        checked = 0
        for block in blocks():
            for node in ast.parse(block).body:
                checked += self.check(block, node, comment_of(block.split("\n"), node), names)
        self.assertGreater(checked, 50)

    def check(self, block, node, comment, names):
        source = ast.get_source_segment(block, node)
        if comment.startswith("raises "):
            with self.assertRaises(Exception) as caught:
                exec(source, names)
            self.assertTrue(comment.startswith(f"raises {type(caught.exception).__name__}("), source)
            return 1
        with redirect_stdout(io.StringIO()):
            if not isinstance(node, ast.Expr):
                exec(source, names)
                return 0
            found = eval(source, names)
        if not comment or "print(" in source:
            return 0
        self.assertEqual(found, self.value(comment), source)
        return 1

    def value(self, comment):
        """The value that a comment begins with; words may follow behind a colon or a semicolon."""
        for end in [len(comment)] + [at for at, sign in enumerate(comment) if sign in ":;"]:
            try:
                return ast.literal_eval(comment[:end])
            except (SyntaxError, ValueError):
                continue
        self.fail(comment)


if __name__ == "__main__":
    unittest.main()
