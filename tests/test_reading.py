import itertools
import unittest

from model import ROW, chain, nest_with, numbered
from nestsets.errors import NoNumber, NoPair, NoSet, NoText, SetError
from nestsets.nests import is_nest
from nestsets.reading import read
from nestsets.writing import written

SIGNS = [chr(code) for code in range(ord(" "), ord("~") + 1)]
PLAIN = ("{}", "{{}}", "{{},{{}}}", "{{{}},{{},{{}}}}", "{{},{{}},{{{}}},{{},{{}}}}", "{{{{{}}}}}")
OTHER_TEXTS = (
    "", " ", ",", "{", "}", "}{", "{}{}", "{},{}", "{},", ",{}", "{,}", "{{},}", "{,{}}", "{{},,{}}", "{{}{}}",
    "{{},{}", "{},{}}", "{}}", "{{}", "}}{{", "{ }", " {}", "{} ", "{{}, {}}", "{{} ,{}}", "()", "[]", "(),", "{()}",
    "{[]}", "{0}", "0", "a", "{}a", "{a}", "{{};{}}", "{}\\", "{}.", "{{},{}}}", "{{}},{}", "{}{", "{},{", "None",
    "{{}}{{}}", "{}}{", "{{},}{}}", "{},,", ",,", "{,,}", "~", "{~}",
)


def scrambled(nest):
    """The text of a nest with the greatest member first and several members twice, at every depth."""
    texts = [scrambled(member) for member in reversed(nest)]
    return "{" + ",".join(texts + texts[:2] + texts[-1:]) + "}"


def mirrored(nest):
    return "{" + ",".join([mirrored(member) for member in reversed(nest)]) + "}"


def texts_with_nests(length):
    """Each text of at most so many signs that tells a nest, with the nest."""
    found = {"{}": ()}
    while True:
        rows = {text: (one,) for text, one in found.items()}
        longer = dict(rows)
        while longer:
            longer = {
                row + "," + text: members + (one,)
                for row, members in longer.items() for text, one in found.items()
                if len(row) + len(text) + 3 <= length
            }
            rows.update(longer)
        more = {"{" + row + "}": nest_with(members) for row, members in rows.items() if len(row) + 2 <= length}
        more["{}"] = ()
        if more == found:
            return found
        found = more


class Read(unittest.TestCase):
    def assert_refused(self, text):
        with self.assertRaises(NoText, msg=repr(text[:80])):
            read(text)

    def test_plain_texts(self):
        self.assertEqual(read("{}"), ())
        self.assertEqual(read("{{}}"), ((),))
        self.assertEqual(read("{{{}}}"), (((),),))
        self.assertEqual(read("{{},{{}}}"), ((), ((),)))
        self.assertEqual(read("{{{}},{{},{{}}}}"), (((),), ((), ((),))))

    def test_what_written_tells(self):
        for one in ROW + tuple([numbered(number) for number in range(300)]):
            self.assertEqual(read(written(one)), one)

    def test_each_nest_has_one_plain_text(self):
        for text in PLAIN:
            self.assertEqual(written(read(text)), text)

    def test_members_in_any_order(self):
        texts = [written(numbered(number)) for number in (0, 1, 2, 3, 9)]
        for row in itertools.permutations(texts):
            self.assertEqual(read("{" + ",".join(row) + "}"), tuple([numbered(number) for number in (0, 1, 2, 3, 9)]))

    def test_members_in_another_order_at_every_depth(self):
        for one in ROW:
            self.assertEqual(read(mirrored(one)), one)

    def test_members_several_times_at_every_depth(self):
        for number in list(range(150)) + [2 ** 11 + 11, 2 ** 16 - 1, 2 ** 63 + 2 ** 62 + 5]:
            self.assertEqual(read(scrambled(numbered(number))), numbered(number))

    def test_members_told_alike_in_other_words(self):
        self.assertEqual(read("{{},{}}"), ((),))
        self.assertEqual(read("{{{},{}},{{}}}"), (((),),))
        self.assertEqual(read("{{{{}},{}},{{},{{}}}}"), (((), ((),)),))
        self.assertEqual(read("{{{},{},{}},{},{{}},{}}"), ((), ((),)))

    def test_thirty_deep(self):
        self.assertEqual(read("{" * 31 + "}" * 31), chain(30))
        self.assertEqual(read("{" * 30 + "}" * 29 + ",{}" + "}"), ((), chain(28)))

    def test_many_members(self):
        self.assertEqual(read("{" + ",".join(["{}"] * 2000) + "}"), ((),))
        self.assertEqual(read("{" + ",".join([written(one) for one in ROW[::-1] + ROW]) + "}"), ROW)

    def test_every_short_text_of_braces_and_commas(self):
        told = texts_with_nests(9)
        self.assertEqual(len(told), 8)
        for length in range(10):
            for signs in itertools.product("{},", repeat=length):
                text = "".join(signs)
                if text in told:
                    self.assertEqual(read(text), told[text], text)
                else:
                    self.assert_refused(text)

    def test_longer_texts_of_braces_and_commas(self):
        for text, one in texts_with_nests(14).items():
            self.assertEqual(read(text), one, text)

    def test_other_texts(self):
        for text in OTHER_TEXTS:
            self.assert_refused(text)

    def test_every_text_of_one_sign(self):
        for sign in SIGNS:
            self.assert_refused(sign)

    def test_a_sign_left_out(self):
        for text in PLAIN:
            for place in range(len(text)):
                self.assert_refused(text[:place] + text[place + 1:])

    def test_a_sign_put_in(self):
        for text in PLAIN:
            for place in range(len(text) + 1):
                for sign in SIGNS:
                    self.assert_refused(text[:place] + sign + text[place:])

    def test_a_sign_doubled(self):
        for text in PLAIN:
            for place in range(len(text)):
                self.assert_refused(text[:place] + text[place] + text[place:])

    def test_a_sign_changed(self):
        for text in PLAIN:
            for place in range(len(text)):
                for sign in SIGNS:
                    if sign != text[place]:
                        self.assert_refused(text[:place] + sign + text[place + 1:])

    def test_something_behind_the_last_brace(self):
        for one in ROW:
            for rest in ("}", "{", ",", " ", "a", "{}", ",{}", ",,", "}}", ",}", "0"):
                self.assert_refused(written(one) + rest)

    def test_something_before_the_first_brace(self):
        for one in ROW:
            for rest in ("}", "{", ",", " ", "a", "{}", "{},", "{,"):
                self.assert_refused(rest + written(one))

    def test_texts_that_go_wrong_far_inside_or_at_the_end(self):
        for many in (31, 400, 5000):
            for text in ("{" * many, "}" * many, "," * many, "{}" * many, "{}," * many, "{" * many + "}" * (many - 1)):
                self.assert_refused(text)
            deep = "{" * many + "}" * many
            for text in (deep + "}", deep + "x", deep + " ", deep + ",", deep + deep, "," + deep, "{" * many + "," + deep):
                self.assert_refused(text)

    def test_the_refusal_is_a_no_text_and_no_other(self):
        for text in OTHER_TEXTS:
            for above in (NoText, SetError, ValueError):
                with self.assertRaises(above) as caught:
                    read(text)
                self.assertNotIsInstance(caught.exception, (NoNumber, NoPair, NoSet))

    def test_what_is_told_is_a_nest(self):
        for text in PLAIN + tuple([scrambled(numbered(number)) for number in range(64)]):
            self.assertIs(type(read(text)), tuple)
            self.assertIs(is_nest(read(text)), True, text)

    def test_the_same_is_told_again(self):
        for text in PLAIN:
            self.assertEqual(read(text), read(text))
        for text in ("", "{", "", "{"):
            self.assert_refused(text)


if __name__ == "__main__":
    unittest.main()
