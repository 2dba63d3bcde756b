"""The examples of README.md."""

import doctest
import os
import unittest

README = os.path.join(os.path.dirname(os.path.dirname(os.path.abspath(__file__))), "README.md")


class Examples(unittest.TestCase):
    def test_all(self):
        failed, tried = doctest.testfile(README, module_relative=False)
        self.assertEqual(failed, 0)
        self.assertGreater(tried, 35)


if __name__ == "__main__":
    unittest.main()
