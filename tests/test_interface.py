"""The interface: each name stands in its module and takes its arguments, and each class has its own methods."""

import importlib
import inspect
import unittest

FUNCTIONS = {
    "pages": {"is_row": 1, "is_page": 1, "show_page": 1, "read_page": 1, "fit_row": 2, "fit_page": 2},
    "words": {"words_by": 1, "run_bits": 2},
    "runs": {"runs_of": 1, "plain_bits": 1, "read_plain": 2},
    "above": {"above_steps": 2, "above_bits": 2, "read_above": 2},
    "stream": {"page_bits": 3, "mark_ends": 1, "stretches": 1, "read_bits": 2},
    "spoils": {"spoiled": 2},
    "rests": {"rest_of": 1, "sealed": 1, "is_sealed": 1},
    "frames": {"stuffed": 1, "unstuffed": 1, "frame_bits": 3, "read_frame": 1, "frames_in": 1},
    "pieces": {"pieces_of": 1},
    "settings": {"is_setting": 1, "agreed": 2},
    "speech": {"is_name": 1, "is_word": 1},
    "calls": {"run_call": 3, "run_fetch": 4},
    "stories": {"stories": 4},
}
# Of each class how many arguments it is made with, and its methods with how many each is called.
CLASSES = {
    ("pieces", "Gathering"): (1, {"take": 2, "lacking": 0, "joined": 0}),
    ("receiver", "Receiver"): (2, {"hears": 1, "had": 0, "held": 0, "print_one": 0, "lose_power": 0}),
    ("sender", "Sender"): (3, {"says": 0, "hears": 1, "outcomes": 0, "lose_power": 0}),
    ("house", "House"): (0, {
        "put": 3, "keep": 4, "call": 3, "fetch": 3, "had": 1, "sent": 1, "book": 1, "print_one": 1,
    }),
    ("desk", "Desk"): (0, {"say": 1}),
}


def takes(function):
    """How many arguments are handed in by their places."""
    kinds = [one.kind for one in inspect.signature(function).parameters.values()]
    return len(kinds) if set(kinds) <= {inspect.Parameter.POSITIONAL_OR_KEYWORD} else None


class TestInterface(unittest.TestCase):
    def test_functions(self):
        for module, functions in FUNCTIONS.items():
            home = importlib.import_module("farpage." + module)
            for name, many in functions.items():
                function = getattr(home, name)
                self.assertEqual(function.__module__, "farpage." + module)
                self.assertEqual(takes(function), many, name)

    def test_classes(self):
        for (module, name), (many, methods) in CLASSES.items():
            one = getattr(importlib.import_module("farpage." + module), name)
            self.assertEqual(takes(one), many, name)
            for method, handed in methods.items():
                # A method of a base class alone isn't enough.
                self.assertIn(method, vars(one), name)
                self.assertEqual(takes(vars(one)[method]), handed + 1, method)


if __name__ == "__main__":
    unittest.main()
