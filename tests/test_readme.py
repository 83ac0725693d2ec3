import doctest
import os
import unittest

ROOT = os.path.dirname(os.path.dirname(os.path.abspath(__file__)))


class TestReadme(unittest.TestCase):
    def test_examples(self):
        result = doctest.testfile(os.path.join(ROOT, "README.md"), module_relative=False)
        self.assertEqual(result.failed, 0)
        self.assertGreater(result.attempted, 0)


if __name__ == "__main__":
    unittest.main()
