import itertools
import unittest

from model import FIRST, ROW, chain, counted, depth as depth_told, nest_from, nest_with, numbered, set_of
from nestsets.deeds import below, both, depth, has, is_closed, joined, parts, shared, within, without
from nestsets.nests import is_nest

SOME = ROW + tuple([numbered(number) for number in (10, 11, 12, 13, 14, 20, 33, 48, 96, 2 ** 20 + 7)])
PAIRS = tuple(itertools.product(SOME, repeat=2))


def below_told(one):
    found = set(one)
    for member in one:
        found |= below_told(member)
    return frozenset(found)


class OfTwo(unittest.TestCase):
    def test_has(self):
        for nest, one in PAIRS:
            self.assertIs(has(nest, one), set_of(one) in set_of(nest), (nest, one))

    def test_has_each_of_its_members_and_not_itself(self):
        for nest in SOME:
            for member in nest:
                self.assertIs(has(nest, member), True)
            self.assertIs(has(nest, nest), False)

    def test_has_no_members_of_members_by_that_alone(self):
        self.assertIs(has((((),),), ()), False)
        self.assertIs(has(chain(30), chain(28)), False)
        self.assertIs(has(chain(30), chain(29)), True)

    def test_within(self):
        for one, other in PAIRS:
            self.assertIs(within(one, other), set_of(one) <= set_of(other), (one, other))

    def test_the_empty_one_is_within_each_and_each_within_itself(self):
        for one in SOME:
            self.assertIs(within((), one), True)
            self.assertIs(within(one, one), True)
            self.assertIs(within(one, ()), one == ())

    def test_two_are_the_same_just_if_each_is_within_the_other(self):
        for one, other in PAIRS:
            self.assertIs(within(one, other) and within(other, one), one == other)

    def test_both(self):
        for one, other in PAIRS:
            self.assertEqual(both(one, other), nest_from(set_of(one) | set_of(other)), (one, other))

    def test_shared(self):
        for one, other in PAIRS:
            self.assertEqual(shared(one, other), nest_from(set_of(one) & set_of(other)), (one, other))

    def test_without(self):
        for one, other in PAIRS:
            self.assertEqual(without(one, other), nest_from(set_of(one) - set_of(other)), (one, other))

    def test_every_two_small_ones(self):
        small = [numbered(number) for number in range(40)]
        for here, one in enumerate(small):
            for there, other in enumerate(small):
                self.assertEqual(both(one, other), numbered(here | there))
                self.assertEqual(shared(one, other), numbered(here & there))
                self.assertEqual(without(one, other), numbered(here & ~there))
                self.assertIs(within(one, other), here & there == here)
                self.assertIs(has(one, other), bool(here >> there & 1))

    def test_written_out(self):
        one = ((), ((),))
        other = ((), (((),),))
        self.assertEqual(both(one, other), ((), ((),), (((),),)))
        self.assertEqual(shared(one, other), ((),))
        self.assertEqual(without(one, other), (((),),))
        self.assertEqual(without(other, one), ((((),),),))

    def test_with_the_empty_one(self):
        for one in SOME:
            self.assertEqual(both(one, ()), one)
            self.assertEqual(both((), one), one)
            self.assertEqual(shared(one, ()), ())
            self.assertEqual(shared((), one), ())
            self.assertEqual(without(one, ()), one)
            self.assertEqual(without((), one), ())
            self.assertEqual(without(one, one), ())

    def test_nests_are_told(self):
        for one, other in PAIRS:
            for deed in (both, shared, without):
                self.assertIs(type(deed(one, other)), tuple)
                self.assertIs(is_nest(deed(one, other)), True, (deed, one, other))


class Joined(unittest.TestCase):
    def test_written_out(self):
        self.assertEqual(joined(()), ())
        self.assertEqual(joined(((),)), ())
        self.assertEqual(joined((((),),)), ((),))
        self.assertEqual(joined((((),), ((), ((),)))), ((), ((),)))
        self.assertEqual(joined((numbered(4), numbered(3), numbered(9))), numbered(15))

    def test_all_members_of_members(self):
        for one in SOME + tuple([numbered(number) for number in range(300)]):
            told = nest_from(frozenset().union(*set_of(one)))
            self.assertEqual(joined(one), told, one)

    def test_of_many(self):
        self.assertEqual(joined(ROW), nest_with([member for one in ROW for member in one]))

    def test_of_one_alone(self):
        for one in SOME:
            self.assertEqual(joined((one,)), one)

    def test_of_two(self):
        for one, other in PAIRS:
            self.assertEqual(joined(nest_with((one, other))), both(one, other))


class Parts(unittest.TestCase):
    def wide(self):
        rows = [FIRST, ROW[9:16], ROW[-7:], (FIRST[0], FIRST[3], ROW[12], ROW[20], ROW[28], ROW[-2])]
        return [row[:length] for row in rows for length in range(7)]

    def test_written_out(self):
        self.assertEqual(parts(()), ((),))
        self.assertEqual(parts(((),)), ((), ((),)))
        self.assertEqual(parts(((), ((),))), ((), ((),), (((),),), ((), ((),))))

    def test_all_nests_whose_members_are_members(self):
        for one in self.wide():
            some = [part for length in range(7) for part in itertools.combinations(one, length)]
            self.assertEqual(parts(one), nest_with(some), one)

    def test_as_many_as_two_taken_as_often_as_there_are_members(self):
        for one in self.wide():
            self.assertEqual(len(parts(one)), 2 ** len(one))

    def test_a_nest_is_told(self):
        for one in self.wide():
            self.assertIs(type(parts(one)), tuple)
            self.assertIs(is_nest(parts(one)), True, one)

    def test_parts_joined_tell_it_again(self):
        for one in self.wide():
            self.assertEqual(joined(parts(one)), one)

    def test_somewhat_beyond_six_members(self):
        for length in (7, 8):
            self.assertEqual(parts(ROW[:length]), tuple([numbered(number) for number in range(2 ** length)]))


class Depth(unittest.TestCase):
    def test_written_out(self):
        self.assertEqual(depth(()), 0)
        self.assertEqual(depth(((),)), 1)
        self.assertEqual(depth((((),),)), 2)
        self.assertEqual(depth(((), ((),))), 2)
        self.assertEqual(depth((((),), (((),),))), 3)

    def test_chains(self):
        for deep in range(31):
            self.assertEqual(depth(chain(deep)), deep)

    def test_the_deepest_member_counts_wherever_it_stands(self):
        # {{}, {{}}} is less deep than {{{}}}, but greater.
        self.assertEqual(depth((numbered(4), numbered(5), numbered(11))), 4)
        self.assertEqual(depth((numbered(4), numbered(11))), 4)
        self.assertEqual(depth((numbered(2), numbered(3))), 3)

    def test_as_the_words_of_the_document(self):
        for one in SOME + tuple([numbered(number) for number in range(600)]):
            self.assertEqual(depth(one), depth_told(one), one)
            self.assertIs(type(depth(one)), int)

    def test_each_member_is_less_deep(self):
        for one in SOME + tuple([numbered(number) for number in range(600)]):
            for member in one:
                self.assertLess(depth(member), depth(one))


class Below(unittest.TestCase):
    def test_written_out(self):
        self.assertEqual(below(()), ())
        self.assertEqual(below(((),)), ((),))
        self.assertEqual(below((((),),)), ((), ((),)))
        self.assertEqual(below(numbered(8)), (numbered(0), numbered(1), numbered(3)))
        self.assertEqual(below((chain(3), chain(5))), tuple([chain(deep) for deep in range(6)]))

    def test_chains(self):
        for deep in range(31):
            self.assertEqual(below(chain(deep)), tuple([chain(less) for less in range(deep)]))

    def test_members_their_members_and_so_on(self):
        for one in SOME + tuple([numbered(number) for number in range(300)]):
            self.assertEqual(below(one), nest_with(below_told(one)), one)

    def test_it_is_closed_and_holds_the_members(self):
        for one in SOME:
            self.assertIs(is_closed(below(one)), True, one)
            self.assertIs(within(one, below(one)), True, one)

    def test_no_member_that_need_not_be_there(self):
        for one in SOME:
            told = below(one)
            for member in told:
                rest = without(told, (member,))
                self.assertFalse(is_closed(rest) and within(one, rest), (one, member))

    def test_a_nest_is_told_that_has_not_the_nest_itself(self):
        for one in SOME:
            self.assertIs(is_nest(below(one)), True)
            self.assertIs(has(below(one), one), False)


class IsClosed(unittest.TestCase):
    def test_written_out(self):
        for one in ((), ((),), ((), ((),)), ((), ((),), (((),),)), ((), ((),), ((), ((),)))):
            self.assertIs(is_closed(one), True, one)
        for one in ((((),),), ((), (((),),)), (((),), (((),),)), (((), ((),)),), ((), ((), ((),)))):
            self.assertIs(is_closed(one), False, one)

    def test_just_if_below_adds_nothing(self):
        for one in SOME + tuple([numbered(number) for number in range(600)]):
            self.assertIs(is_closed(one), below_told(one) == set(one), one)

    def test_counting_nests(self):
        for number in range(9):
            self.assertIs(is_closed(counted(number)), True)
        self.assertIs(is_closed(counted(8)[1:]), False)
        self.assertIs(is_closed(counted(8)[:3] + counted(8)[4:]), False)

    def test_deep_ones(self):
        row = tuple([chain(deep) for deep in range(30)])
        self.assertIs(is_closed(row), True)
        for place in range(29):
            self.assertIs(is_closed(row[:place] + row[place + 1:]), False, place)


class Again(unittest.TestCase):
    def test_the_same_is_told_again(self):
        for one in SOME:
            for deed in (is_closed, joined, depth, below):
                self.assertEqual(deed(one), deed(one))
            self.assertEqual(parts(one[:6]), parts(one[:6]))


if __name__ == "__main__":
    unittest.main()
