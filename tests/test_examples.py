import doctest
import os
import unittest

EXAMPLES = os.path.join(os.path.dirname(os.path.abspath(__file__)), "examples.txt")


class ExamplesTest(unittest.TestCase):
    def test_examples_of_the_document(self):
        result = doctest.testfile(EXAMPLES, module_relative=False)
        self.assertEqual(result.attempted, 64)
        self.assertEqual(result.failed, 0)


if __name__ == "__main__":
    unittest.main()
