"""The functions and classes that the document's interface lists stand in the files under which it lists them."""

import importlib
import inspect
import unittest

# The file, the function, and how many things are handed to it.
LISTED = (("rows", "is_name", 1), ("rows", "is_header_name", 1), ("rows", "is_value", 1), ("rows", "folded", 2),
          ("rows", "unfolded", 1), ("sixty", "sixty_of", 1), ("sixty", "bytes_of_sixty", 1),
          ("sixteens", "sixteens_of", 1), ("sixteens", "bytes_of_sixteens", 1), ("words", "value_of", 1),
          ("words", "bytes_of_value", 1), ("times", "time_of", 1), ("times", "time_text", 2),
          ("people", "people_of", 1), ("people", "people_text", 1), ("headers", "header_of", 2),
          ("pieces", "piece_rows", 1), ("pieces", "piece_of", 1), ("letters", "letter_text", 1),
          ("letters", "letter_of", 1), ("letters", "said", 2), ("letters", "id_of", 1), ("letters", "sender_of", 1),
          ("letters", "minute_of", 1), ("threads", "elders_of", 1), ("threads", "threads_of", 1),
          ("threads", "thread_rows", 1), ("rules", "rules_of", 1), ("rules", "rules_text", 1), ("rules", "sorted_by", 2),
          ("rules", "fits", 4), ("shell", "answer", 2), ("shell", "play", 2))
# The file, the class, and each method that stands in it, with how many things are handed to that.
CLASSES = (*[("headers", name, (("__init__", 2), ("value", 0), ("told", 0)))
             for name in ("Header", "People", "When", "Ids", "About", "Marks")],
           ("pieces", "Piece", (("__init__", 3),)),
           ("house", "House", (("__init__", 1), ("come", 1), ("move", 3), ("drop", 2), ("mark", 2), ("unmark", 2),
                               ("folders", 1), ("marks", 1), ("folder", 1), ("names", 0), ("text", 1), ("threads", 1),
                               ("renew", 1))))


class Interface(unittest.TestCase):
    def test_each_function_is_defined_in_its_file(self):
        for file, name, many in LISTED:
            with self.subTest(file=file, name=name):
                function = getattr(importlib.import_module("letterhouse." + file), name)
                self.assertTrue(inspect.isfunction(function))
                self.assertEqual(function.__module__, "letterhouse." + file)
                self.assertEqual(len(inspect.signature(function).parameters), many)

    def test_each_class_is_defined_in_its_file_and_has_its_methods(self):
        for file, name, methods in CLASSES:
            listed = getattr(importlib.import_module("letterhouse." + file), name)
            self.assertTrue(inspect.isclass(listed))
            self.assertEqual(listed.__module__, "letterhouse." + file)
            for method, many in methods:
                with self.subTest(name=name, method=method):
                    function = vars(listed)[method]
                    self.assertTrue(inspect.isfunction(function))
                    self.assertEqual(len(inspect.signature(function).parameters), many + 1)


if __name__ == "__main__":
    unittest.main()
