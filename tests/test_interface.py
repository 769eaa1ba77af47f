"""The functions that the document's interface lists stand in the files under which it lists them."""

import importlib
import inspect
import unittest

# The file, the function, and how many things are handed to it.
LISTED = (("rows", "is_name", 1), ("rows", "is_header_name", 1), ("rows", "is_value", 1), ("rows", "folded", 2),
          ("rows", "unfolded", 1), ("sixty", "sixty_of", 1), ("sixty", "bytes_of_sixty", 1),
          ("sixteens", "sixteens_of", 1), ("sixteens", "bytes_of_sixteens", 1), ("words", "value_of", 1),
          ("words", "bytes_of_value", 1), ("times", "time_of", 1), ("times", "time_text", 2),
          ("people", "people_of", 1), ("people", "people_text", 1))


class Interface(unittest.TestCase):
    def test_each_function_is_defined_in_its_file(self):
        for file, name, many in LISTED:
            with self.subTest(file=file, name=name):
                function = getattr(importlib.import_module("letterhouse." + file), name)
                self.assertTrue(inspect.isfunction(function))
                self.assertEqual(function.__module__, "letterhouse." + file)
                self.assertEqual(len(inspect.signature(function).parameters), many)


if __name__ == "__main__":
    unittest.main()
