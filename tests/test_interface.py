import importlib
import inspect
import unittest

ARGUMENTS = {
    "nests": {"is_nest": ["thing"], "is_less": ["one", "other"], "nest": ["some"]},
    "numbers": {"number_of": ["nest"], "nest_of": ["number"]},
    "writing": {"written": ["nest"]},
}


class Interface(unittest.TestCase):
    def test_names_and_arguments(self):
        for module, defs in ARGUMENTS.items():
            held = importlib.import_module("nestsets." + module)
            for name, arguments in defs.items():
                told = inspect.signature(getattr(held, name)).parameters
                self.assertEqual(list(told), arguments, name)
                for argument in told.values():
                    self.assertIs(argument.default, inspect.Parameter.empty, name)

    def test_numbers_know_their_refusal(self):
        held = importlib.import_module("nestsets.numbers")
        self.assertIs(held.NoNumber, importlib.import_module("nestsets.errors").NoNumber)


if __name__ == "__main__":
    unittest.main()
