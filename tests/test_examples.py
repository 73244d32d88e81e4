"""The examples of the document, as printed there."""

import doctest
import os
import unittest

HERE = os.path.join(os.path.dirname(os.path.abspath(__file__)), "examples")


class Examples(unittest.TestCase):
    def test_examples(self):
        names = sorted(os.listdir(HERE))
        self.assertEqual(len(names), 21)
        for name in names:
            with self.subTest(name):
                failed, tried = doctest.testfile(os.path.join(HERE, name), module_relative=False)
                self.assertEqual(failed, 0)
                self.assertGreater(tried, 2)

    def test_readme(self):
        path = os.path.join(os.path.dirname(os.path.dirname(HERE)), "README.md")
        failed, tried = doctest.testfile(path, module_relative=False)
        self.assertEqual(failed, 0)
        self.assertGreater(tried, 2)


if __name__ == "__main__":
    unittest.main()
