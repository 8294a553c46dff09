import importlib
import inspect
import unittest

ARGUMENTS = {
    "nests": {"is_nest": ["thing"], "is_less": ["one", "other"], "nest": ["some"]},
    "numbers": {"number_of": ["nest"], "nest_of": ["number"]},
    "writing": {"written": ["nest"]},
    "reading": {"read": ["text"]},
    "deeds": {
        "has": ["nest", "one"], "within": ["one", "other"], "is_closed": ["nest"], "both": ["one", "other"],
        "shared": ["one", "other"], "without": ["one", "other"], "joined": ["nest"], "parts": ["nest"],
        "depth": ["nest"], "below": ["nest"],
    },
    "pairs": {
        "pair": ["one", "other"], "is_pair": ["nest"], "first": ["nest"], "second": ["nest"],
        "product": ["one", "other"], "is_map": ["nest", "one", "other"], "value": ["nest", "here"],
    },
    "nets": {"sets_of": ["net"], "counting": ["number"], "count_of": ["nest"]},
}
REFUSALS = {"numbers": "NoNumber", "reading": "NoText", "pairs": "NoPair", "nets": "NoSet"}


class Interface(unittest.TestCase):
    def test_names_and_arguments(self):
        for module, defs in ARGUMENTS.items():
            held = importlib.import_module("nestsets." + module)
            for name, arguments in defs.items():
                told = inspect.signature(getattr(held, name)).parameters
                self.assertEqual(list(told), arguments, name)
                for argument in told.values():
                    self.assertIs(argument.default, inspect.Parameter.empty, name)

    def test_each_file_knows_its_refusal(self):
        errors = importlib.import_module("nestsets.errors")
        for module, name in REFUSALS.items():
            held = importlib.import_module("nestsets." + module)
            self.assertIs(getattr(held, name), getattr(errors, name), module)


if __name__ == "__main__":
    unittest.main()
