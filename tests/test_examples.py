"""Each example of the interface, as written: examples.txt has them one behind another."""

import doctest
import os
import unittest


class Examples(unittest.TestCase):
    def test_examples(self):
        path = os.path.join(os.path.dirname(os.path.abspath(__file__)), "examples.txt")
        result = doctest.testfile(path, module_relative=False)
        self.assertEqual(result.failed, 0)
        self.assertEqual(result.attempted, 160)


if __name__ == "__main__":
    unittest.main()
