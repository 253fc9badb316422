import doctest
import os
import unittest

README = os.path.join(os.path.dirname(os.path.dirname(os.path.abspath(__file__))), "README.md")


class Readme(unittest.TestCase):
    def test_its_session_runs_as_written(self):
        failed, tried = doctest.testfile(README, module_relative=False)
        self.assertEqual(failed, 0)
        self.assertGreater(tried, 3)


if __name__ == "__main__":
    unittest.main()
