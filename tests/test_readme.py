import doctest
import os
import unittest

ROOT = os.path.dirname(os.path.dirname(os.path.abspath(__file__)))


class Readme(unittest.TestCase):
    def test_its_examples(self):
        told = doctest.testfile(os.path.join(ROOT, "README.md"), module_relative=False)
        self.assertEqual(told.failed, 0)
        self.assertGreater(told.attempted, 5)
