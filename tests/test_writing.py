import unittest

from model import ROW, chain, numbered
from nestsets.nests import nest
from nestsets.writing import written

TEXTS = (
    ((), "{}"),
    (((),), "{{}}"),
    ((((),),), "{{{}}}"),
    (((), ((),)), "{{},{{}}}"),
    (((), (((),),)), "{{},{{{}}}}"),
    ((((),), (((),),)), "{{{}},{{{}}}}"),
    (((), ((),), (((),),)), "{{},{{}},{{{}}}}"),
    ((((), ((),)),), "{{{},{{}}}}"),
    ((((),), ((), ((),))), "{{{}},{{},{{}}}}"),
    (((), ((),), (((),),), ((), ((),))), "{{},{{}},{{{}}},{{},{{}}}}"),
)


def parsed(text):
    """The nest of a plain text, read through Python's own brackets."""
    return eval(text.replace("{", "(").replace("}", ",)").replace("(,)", "()").replace(",,)", ",)"), {})


class Written(unittest.TestCase):
    def test_the_plain_form(self):
        for one, text in TEXTS:
            self.assertEqual(written(one), text)

    def test_thirty_deep(self):
        self.assertEqual(written(chain(30)), "{" * 31 + "}" * 31)
        self.assertEqual(written(((), chain(29))), "{{}," + "{" * 30 + "}" * 31)

    def test_just_braces_and_commas(self):
        for one in ROW:
            text = written(one)
            self.assertIs(type(text), str)
            self.assertEqual(set(text) - set("{},"), set())

    def test_members_in_rising_order(self):
        for one in ROW:
            self.assertEqual(parsed(written(one)), one)
        self.assertEqual(written(nest(((((),),), (), ((),)))), "{{},{{}},{{{}}}}")

    def test_each_nest_has_one_text(self):
        nests = [numbered(number) for number in range(300)] + list(ROW[-8:])
        texts = [written(one) for one in nests]
        self.assertEqual(len(set(texts)), len(nests))
        self.assertEqual([written(one) for one in nests], texts)


if __name__ == "__main__":
    unittest.main()
