"""The interface: what must exist under which name, where it is defined, what it takes."""

import importlib
import inspect
import unittest

from turnedtunes.books import Book
from turnedtunes.desk import Desk
from turnedtunes.hearings import Hearing
from turnedtunes.melodies import Melody
from turnedtunes.ties import Tie

# module: {class: (attributes, methods)}
CLASSES = {
    "ties": {"Tie": (("first", "second", "length", "amount", "down", "backward", "text"), ("of", "led", "part"))},
    "books": {"Book": (("text", "size", "ties", "notes"), ("with_tie", "without", "with_note"))},
    "melodies": {"Melody": (("pieces", "size", "new"), ("played",))},
    "hearings": {"Hearing": (("size", "book", "free", "done"), ("hear", "note", "forget", "drop", "undo", "redo",
                                                                "trial", "keep", "tried", "copy"))},
    "desk": {"Desk": (("hearing",), ("say",))},
}
OBJECTS = {"Tie": Tie(0, 1, 2), "Book": Book("size 4"), "Melody": Melody((("new", 1),)), "Hearing": Hearing(4),
           "Desk": Desk("size 4")}

# module: {function: parameters}
FUNCTIONS = {
    "hanging": {"hangs": "(book, place)", "free": "(book)", "free_parts": "(book)", "heard": "(book, first, length)"},
    "melodies": {"keeps": "(book, melody)", "general": "(book)", "shows_general": "(book, value)"},
    "lines": {"why": "(book, place)", "shows_why": "(book, place, value)", "fits": "(book)",
              "shows_fits": "(book, value)"},
    "intervals": {"interval": "(book, one, other)", "follows": "(book, tie)", "needless": "(book)"},
    "counting": {"many": "(book, place, upto)", "nth": "(book, place, number)", "told": "(book, upto)"},
    "compass": {"compass": "(book)", "room": "(book, low, high)", "reach": "(book, place, low, high)"},
    "comparing": {"within": "(one, other)", "alike": "(one, other)"},
    "choosing": {"cheapest": "(book, offers, wishes)"},
    "journals": {"journal": "(hearing)", "read_journal": "(text)"},
}

PARAMETERS = {
    Tie: "(first, second, length, amount=0, *, down=False, backward=False)",
    Tie.of: "(text)",
    Tie.__call__: "(self, place)",
    Tie.led: "(self, note)",
    Tie.part: "(self, start, length)",
    Book: "(text)",
    Book.with_tie: "(self, tie)",
    Book.without: "(self, number)",
    Book.with_note: "(self, place, note)",
    Melody: "(pieces)",
    Melody.played: "(self, look, first, length)",
    Hearing: "(size)",
    Hearing.hear: "(self, tie)",
    Hearing.note: "(self, place, note)",
    Hearing.forget: "(self, number)",
    Hearing.drop: "(self, place)",
    Hearing.undo: "(self)",
    Hearing.redo: "(self)",
    Hearing.trial: "(self)",
    Hearing.keep: "(self)",
    Hearing.tried: "(self, look, *, keep=False)",
    Hearing.copy: "(self)",
    Desk: "(text)",
    Desk.say: "(self, line)",
}

OPERATORS = {
    Tie: ("__call__", "__invert__", "__rshift__", "__mul__", "__eq__"),
    Book: ("__len__", "__getitem__", "__contains__", "__or__", "__add__", "__invert__", "__neg__", "__eq__"),
    Melody: ("__getitem__", "__eq__"),
    Hearing: ("__len__", "__getitem__", "__setitem__", "__contains__", "__iadd__", "__isub__", "__eq__"),
}


class Interface(unittest.TestCase):

    def test_each_class_is_defined_in_its_file(self):
        for module, classes in CLASSES.items():
            for name in classes:
                found = getattr(importlib.import_module(f"turnedtunes.{module}"), name)
                self.assertTrue(inspect.isclass(found))
                self.assertEqual(found.__module__, f"turnedtunes.{module}")

    def test_attributes_are_set_when_an_object_is_created(self):
        for classes in CLASSES.values():
            for name, (attributes, _) in classes.items():
                self.assertLessEqual(set(attributes), set(vars(OBJECTS[name])))

    def test_methods_are_defined_in_the_class_itself(self):
        for classes in CLASSES.values():
            for name, (_, methods) in classes.items():
                self.assertLessEqual(set(methods), set(vars(type(OBJECTS[name]))))

    def test_operators_are_defined_in_the_class_itself(self):
        for one, methods in OPERATORS.items():
            self.assertLessEqual(set(methods), set(vars(one)))

    def test_each_function_is_defined_in_its_file(self):
        for module, functions in FUNCTIONS.items():
            for name, wanted in functions.items():
                found = getattr(importlib.import_module(f"turnedtunes.{module}"), name)
                self.assertTrue(inspect.isfunction(found))
                self.assertEqual(found.__module__, f"turnedtunes.{module}")
                self.assertEqual(str(inspect.signature(found)), wanted)

    def test_what_they_take(self):
        for what, wanted in PARAMETERS.items():
            self.assertEqual(str(inspect.signature(what)), wanted)


if __name__ == "__main__":
    unittest.main()
