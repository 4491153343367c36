"""The interface: each function is there under its name, with its arguments as the document calls them."""

import unittest
from importlib import import_module
from inspect import signature

ARGUMENTS = {
    "families": {
        "is_family": ["many", "family"],
        "ordered": ["many", "family"],
        "others": ["many", "family"],
        "left_on": ["many", "family", "things"],
        "flipped": ["many", "family", "things"],
    },
    "picks": {
        "picks": ["many", "family", "things"],
        "missing": ["many", "family", "things"],
        "cube_at": ["many", "family", "things"],
        "picked": ["many", "family"],
        "cubes": ["many", "family"],
        "reach": ["many", "family"],
        "bound": ["many", "most"],
    },
    "pressing": {
        "pressed": ["many", "family", "thing"],
        "pressed_down": ["many", "family"],
        "is_down": ["many", "family"],
    },
    "telling": {
        "teller": ["many", "family", "member"],
        "apart": ["many", "family"],
    },
    "notes": {
        "shown": ["many", "family"],
        "read": ["text"],
    },
}


class TheInterface(unittest.TestCase):
    def test_names_and_arguments(self):
        for module, functions in ARGUMENTS.items():
            for name, arguments in functions.items():
                with self.subTest(module=module, name=name):
                    call = getattr(import_module(f"pickhouse.{module}"), name)
                    self.assertEqual(list(signature(call).parameters), arguments)
