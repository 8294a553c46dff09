import copy
import itertools
import unittest

from model import FIRST, ROW, chain, depth, is_greater, numbered, set_of
from nestsets.nests import is_less, is_nest, nest

NO_TUPLES = (
    None, True, False, 0, 1, -1, 2 ** 70, "", "()", "{}", "a",
    [], [()], [[]], [(), ((),)],
)
NOT_RISING = (
    ((), ()),
    (((),), ()),
    (((),), ((),)),
    ((), (), ((),)),
    ((), ((),), ((),)),
    ((), (((),),), ((),)),
    (((),), (), (((),),)),
    ((((),),), ((), ((),)), ((),)),
    (((), ((),)), (((),),)),
    (chain(30), ()),
    (chain(29), chain(29)),
    (chain(29), chain(28)),
)


def around(wrong):
    """Tuples that hold the wrong thing, alone and among others, at several depths."""
    found = [(wrong,), ((), wrong), (wrong, ()), ((), wrong, ((),)), ((wrong,),), ((), (wrong,)), (((), wrong),)]
    deep = wrong
    for _ in range(20):
        deep = (deep,)
    return found + [deep, ((), deep)]


def rebuilt(one):
    return tuple([rebuilt(member) for member in one])


class IsNest(unittest.TestCase):
    def test_nests_of_some_depth(self):
        for one in ROW:
            self.assertIs(is_nest(one), True, one)

    def test_every_small_nest(self):
        for number in range(600):
            self.assertIs(is_nest(numbered(number)), True, number)

    def test_things_that_are_no_tuples(self):
        for thing in NO_TUPLES:
            self.assertIs(is_nest(thing), False, repr(thing))

    def test_tuples_that_hold_such_a_thing(self):
        for wrong in NO_TUPLES:
            for thing in around(wrong):
                self.assertIs(is_nest(thing), False, repr(thing))

    def test_tuples_of_several_such_things(self):
        for thing in ((1, 2), (1, "a"), (None, None), ("a", "b"), ([], ()), ((), [], None), (False, True), ([()],)):
            self.assertIs(is_nest(thing), False, repr(thing))

    def test_lists_that_hold_nests(self):
        for one in ROW:
            self.assertIs(is_nest(list(one)), False, one)
            self.assertIs(is_nest([one]), False, one)
            self.assertIs(is_nest((list(one),)), False, one)

    def test_members_twice_or_not_rising(self):
        for thing in NOT_RISING:
            self.assertIs(is_nest(thing), False, thing)

    def test_members_twice_or_not_rising_further_down(self):
        for wrong in NOT_RISING:
            for thing in around(wrong):
                self.assertIs(is_nest(thing), False, thing)

    def test_of_all_rows_of_some_nests_just_the_rising_ones(self):
        for places in itertools.chain.from_iterable(
                itertools.product(range(6), repeat=length) for length in range(4)):
            rising = list(places) == sorted(set(places))
            self.assertIs(is_nest(tuple([FIRST[place] for place in places])), rising, places)

    def test_lists_are_not_changed(self):
        for thing in ([], [()], [((),), ()], ([], [[]]), ((), [((),), ()])):
            before = copy.deepcopy(thing)
            is_nest(thing)
            self.assertEqual(thing, before)

    def test_the_same_is_told_again(self):
        for thing in ROW + NO_TUPLES + NOT_RISING:
            self.assertIs(is_nest(thing), is_nest(thing))


class IsLess(unittest.TestCase):
    def test_each_two_of_a_row(self):
        for here, one in enumerate(ROW):
            for there, other in enumerate(ROW):
                self.assertIs(is_less(one, other), here < there, (one, other))

    def test_each_two_small_nests_as_their_numbers(self):
        small = [numbered(number) for number in range(130)]
        for here, one in enumerate(small):
            for there, other in enumerate(small):
                self.assertIs(is_less(one, other), here < there, (here, there))

    def test_as_the_words_of_the_document(self):
        some = [numbered(number) for number in range(32)] + [chain(6), ((), chain(6)), (chain(5), chain(6))]
        for one in some:
            for other in some:
                self.assertIs(is_less(one, other), is_greater(set_of(other), set_of(one)), (one, other))

    def test_the_least_three(self):
        self.assertIs(is_less((), ((),)), True)
        self.assertIs(is_less(((),), (((),),)), True)
        for one in ROW[1:]:
            self.assertIs(is_less(one, ()), False)

    def test_equal_nests_that_are_other_objects(self):
        for one in ROW:
            again = rebuilt(one)
            self.assertIs(is_less(one, again), False)
            self.assertIs(is_less(again, one), False)

    def test_more_members_do_not_make_it_greater(self):
        self.assertIs(is_less(numbered(7), numbered(8)), True)
        self.assertIs(is_less(numbered(8), numbered(7)), False)

    def test_a_member_is_less_than_what_it_is_in(self):
        for one in ROW:
            for member in one:
                self.assertIs(is_less(member, one), True, (member, one))
                self.assertLess(depth(member), depth(one))


class Nest(unittest.TestCase):
    def test_of_none(self):
        self.assertEqual(nest(()), ())

    def test_members_in_any_order(self):
        members = (numbered(0), numbered(1), numbered(3), numbered(4), chain(20))
        for some in itertools.permutations(members):
            self.assertEqual(nest(some), members)

    def test_members_several_times(self):
        for places in itertools.product(range(5), repeat=4):
            some = tuple([FIRST[place] for place in places])
            told = nest(some)
            self.assertEqual(told, tuple([FIRST[place] for place in sorted(set(places))]))

    def test_one_member_many_times(self):
        for one in ROW:
            self.assertEqual(nest((one,) * 5), (one,))

    def test_equal_members_that_are_other_objects(self):
        self.assertEqual(nest((chain(9), chain(9), numbered(5), numbered(5))), (numbered(5), chain(9)))

    def test_the_members_of_a_nest_give_it_back(self):
        for one in ROW:
            self.assertEqual(nest(one), one)
            self.assertEqual(nest(one[::-1]), one)
            self.assertEqual(nest(one[::-1] + one), one)

    def test_many_members(self):
        self.assertEqual(nest(ROW[::-1] + ROW), ROW)
        small = tuple([numbered(number) for number in range(100)])
        mixed = tuple([small[place * 37 % 100] for place in range(200)])
        self.assertEqual(nest(mixed), small)

    def test_what_is_told_is_a_nest_of_just_these(self):
        for some in itertools.product(FIRST[:5], ROW[-4:], FIRST[2:4]):
            told = nest(some)
            self.assertIs(type(told), tuple)
            self.assertIs(is_nest(told), True)
            self.assertEqual(set(told), set(some))
            self.assertEqual(len(told), len(set(some)))

    def test_two_are_the_same_just_if_their_members_are(self):
        rows = [row for length in range(4) for row in itertools.product(FIRST[:4], repeat=length)]
        for one in rows:
            for other in rows:
                self.assertIs(nest(one) == nest(other), set(one) == set(other), (one, other))

    def test_the_same_is_told_again(self):
        some = ROW[::-1]
        self.assertEqual(nest(some), nest(some))


if __name__ == "__main__":
    unittest.main()
