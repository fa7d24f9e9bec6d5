"""What README.md shows is what the program answers."""

import ast
import pathlib
import re
import unittest

README = pathlib.Path(__file__).resolve().parent.parent / "README.md"


def told_value(comment):
    """A list with the value with which the comment begins, [] if it begins with words."""
    try:
        return [ast.literal_eval(comment.partition(": ")[0].strip())]
    except (SyntaxError, ValueError):
        return []


class ReadmeTest(unittest.TestCase):

    def test_examples(self):
        names, compared = {}, 0
        for block in re.findall(r"```python\n(.*?)```", README.read_text(encoding="utf-8"), re.DOTALL):
            for line in filter(None, block.split("\n")):
                code, _, comment = line.partition("  # ")
                answer = self.answer(code.strip(), names)
                for told in told_value(comment):
                    self.assertEqual(answer, told, line)
                    compared += 1
        self.assertGreater(compared, 45)

    def answer(self, code, names):
        """What the line gives, or what it assigns."""
        statement = ast.parse(code).body[0]
        if isinstance(statement, ast.Expr):
            return eval(code, names)
        exec(code, names)
        return eval(ast.unparse(statement.targets[0]), names) if isinstance(statement, ast.Assign) else None


if __name__ == "__main__":
    unittest.main()
