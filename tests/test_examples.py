"""Each example of the interface, as written: examples.txt has them one behind another; and those of README.md."""

import contextlib
import doctest
import io
import os
import re
import unittest

HERE = os.path.dirname(os.path.abspath(__file__))


class Examples(unittest.TestCase):
    def test_examples(self):
        result = doctest.testfile(os.path.join(HERE, "examples.txt"), module_relative=False)
        self.assertEqual(result.failed, 0)
        self.assertEqual(result.attempted, 160)

    def test_readme(self):
        with open(os.path.join(os.path.dirname(HERE), "README.md"), encoding="utf-8") as file:
            rows = re.findall("```python\n(.*?)```", file.read(), re.S)
        self.assertEqual(len(rows), 4)
        printed = io.StringIO()
        with contextlib.redirect_stdout(printed):
            exec("\n".join(rows), {})
        self.assertTrue(printed.getvalue().endswith("no fresh\n"))


if __name__ == "__main__":
    unittest.main()
