"""The files: __init__.py is empty, sizes and characters are those of LANGUAGE.md, and README.md tells what holds."""

import ast
import doctest
import pathlib
import unittest

import leftfirst

FOLDER = pathlib.Path(leftfirst.__file__).parent


class Files(unittest.TestCase):
    def test_init_is_empty(self):
        self.assertEqual((FOLDER / "__init__.py").read_bytes(), b"")

    def test_sizes_and_characters(self):
        for path in sorted(FOLDER.glob("*.py")):
            with self.subTest(path.name):
                text = path.read_text(encoding="ascii")
                lines = text.split("\n")
                self.assertLessEqual(len(lines), 400)
                self.assertLessEqual(max(len(line) for line in lines), 120)
                self.assertNotIn("\t", text)
                for node in ast.walk(ast.parse(text)):
                    if isinstance(node, ast.FunctionDef):
                        self.assertLessEqual(node.end_lineno - node.lineno + 1, 40, node.name)

    def test_examples_of_the_readme(self):
        # Without the fences, which would count as the last line of what an example returns.
        text = (FOLDER.parent / "README.md").read_text(encoding="ascii").replace("```", "")
        examples = doctest.DocTestParser().get_doctest(text, {}, "README.md", "README.md", 0)
        outcome = doctest.DocTestRunner().run(examples)
        self.assertEqual(outcome.failed, 0)
        self.assertGreater(outcome.attempted, 10)


if __name__ == "__main__":
    unittest.main()
