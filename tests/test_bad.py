"""bad and good: which uses are bad, and the refusals."""

from tests.helper import AskingCase, ask, bad, good, of_step, of_thing, quick, recall, release, step, thing, witness

FORTY_STEPS_OF_ONE = [thing(0, 1, 0)] + [step(0, 0, [of_thing(0)])] * 40
SEVEN_THINGS = [thing(0, 1, 0)] * 7 + [step(0, 0, [of_thing(x) for x in range(7)]), release(0)]
SIX_BAD = SEVEN_THINGS + [bad(x, 0) for x in range(6)]


class BadTest(AskingCase):
    def test_answers_how_many_bad_uses_there_are(self):
        day = [thing(0, 1, 0), thing(0, 2, 0), step(0, 0, [of_thing(0)]), step(0, 0, [of_thing(1), of_thing(0)]),
               step(0, 0, [of_step(0)]), step(0, 0, [of_thing(1)])]
        self.check(day + [bad(0, 0), bad(1, 0)], [2], [4])
        self.check(day + [bad(1, 0), bad(0, 0)], [2], [4])

    def test_uses_before_and_from_the_step_since(self):
        day = FORTY_STEPS_OF_ONE
        for since in (0, 1, 20, 38, 39):
            self.check(day + [bad(0, since)], [40 - since])
        day = [thing(0, 1, 0)] + [step(0, 0, [of_thing(0)])] * 3 + [release(k) for k in range(3)]
        self.check(day + [bad(0, 0), quick(), recall()], [3], [3, 0, 1, 2], [3, 0, 1, 2])
        self.check(day + [bad(0, 1), quick(), recall()], [2], [2, 1, 2], [2, 1, 2])
        self.check(day + [bad(0, 2), quick(), recall()], [1], [1, 2], [1, 2])
        self.check(day + [bad(0, 3), quick(), recall()], [0], [0], [0])

    def test_since_another_step_than_before(self):
        day = [thing(0, 1, 0)] + [step(0, 0, [of_thing(0)])] * 4 + [release(k) for k in range(4)]
        self.check(day + [bad(0, 1), bad(0, 3), quick(), bad(0, 0), quick(), bad(0, 39), quick()],
                   [3], [1], [1, 3], [4], [4, 0, 1, 2, 3], [0], [0])
        self.check(day + [bad(0, 1), bad(0, 1), good(0), good(0)], [3], [3], [0], [-4])

    def test_steps_told_later(self):
        day = [thing(0, 1, 0), bad(0, 1), step(0, 0, [of_thing(0)]), step(0, 0, [of_thing(0)]), release(0), release(1)]
        self.check(day + [quick(), recall(), bad(0, 1)], [1, 1], [1, 1], [1])

    def test_several_times_in_one_step_is_one_use(self):
        day = [thing(0, 1, 0), thing(0, 1, 0),
               step(0, 0, [of_thing(0, 1), of_thing(1, 10), of_thing(0, 100), of_thing(0, 1)])]
        self.check(day + [bad(0, 0), witness(0)], [1], [1, 1, 102, 1])
        self.check(day + [bad(0, 0), bad(1, 0), witness(0)], [1], [2], [1, 1, 10, 0, 1])

    def test_a_thing_in_two_steps_is_two_uses(self):
        day = [thing(0, 1, 0), step(0, 0, [of_thing(0)]), step(0, 0, [of_thing(0), of_step(0, 10)]), bad(0, 0)]
        self.check(day + [witness(0), witness(1)], [2], [1, 1, 1, 1, 0], [1, 1, 1, 0, 1])

    def test_a_thing_that_counts_0_times_is_a_use_all_the_same(self):
        day = [thing(0, 1, 0), step(0, 4, [of_thing(0, 0)]), release(0), bad(0, 0)]
        self.check(day + [quick(), recall(), witness(0)], [1], [1, 0], [0], [0])
        both = [thing(0, 1, 0), thing(0, 1, 0), step(0, 4, [of_thing(0, 0), of_thing(1)]), bad(0, 0), bad(1, 0)]
        self.check(both + [witness(0)], [2], [1, 1, 5, 0, 1])

    def test_a_step_is_no_use_of_what_it_looks_at(self):
        day = [thing(0, 1, 0), step(0, 0, [of_thing(0)]), step(0, 0, [of_step(0)], [(0, 1, 0)])]
        self.check(day + [bad(0, 0), bad(0, 1)], [1], [0])

    def test_a_step_that_is_not_done_has_its_uses(self):
        day = [thing(0, 1, 0), step(), step(0, 0, [of_thing(0)], [(0, 1, 1)]), release(1), bad(0, 0)]
        self.check(day + [quick(), recall(), witness(1)], [1], [1, 1], [0], [0])

    def test_six_bad_things_and_one_more(self):
        self.assertEqual(ask(SIX_BAD)[-6:], [[1], [2], [3], [4], [5], [6]])
        self.check_refused(SIX_BAD, bad(6, 0), -2)
        self.check_refused(SIX_BAD, bad(6, 39), -2)
        self.check(SIX_BAD + [bad(6, 0), good(6)], [-2], [-4])
        self.check(SIX_BAD + [good(3), bad(6, 0)], [0], [6])

    def test_one_of_six_bad_things_since_another_step(self):
        for x in range(6):
            self.check(SIX_BAD + [bad(x, 1), bad(6, 0), bad(x, 0)], [5], [-2], [6])

    def test_x_out_of_range(self):
        self.check_out_of_range(SEVEN_THINGS, lambda x: bad(x, 0), 0, 6)
        self.check_out_of_range([thing(0, 1, 0)] * 20, lambda x: bad(x, 0), 0, 19)
        self.check_refused([step()], bad(0, 0), -1)

    def test_since_out_of_range(self):
        self.check_out_of_range(SEVEN_THINGS, lambda since: bad(0, since), 0, 39)
        self.check_out_of_range([thing(0, 1, 0)], lambda since: bad(0, since), 0, 39)
        self.check(SEVEN_THINGS + [bad(0, 0), bad(0, 40), bad(1, 0)], [1], [-1], [2])

    def test_out_of_range_comes_ahead_of_too_many(self):
        self.check_refused(SIX_BAD, bad(7, 0), -1)
        self.check_refused(SIX_BAD, bad(6, 40), -1)
        self.check_refused(SIX_BAD, bad(6, -1), -1)


class GoodTest(AskingCase):
    def test_it_is_not_bad_any_more(self):
        day = [thing(0, 1, 0), step(0, 0, [of_thing(0)]), release(0), bad(0, 0)]
        self.check(day + [quick(), recall(), good(0), quick(), recall(), witness(0)],
                   [1, 0], [1, 0], [0], [0], [0], [0])

    def test_only_that_thing(self):
        self.check(SIX_BAD + [good(2), bad(0, 0), witness(0), good(5), bad(0, 0), witness(0)],
                   [0], [5], [1, 1, 1, 0, 0, 0, 0, 1], [0], [4], [1, 1, 1, 0, 0, 0, 1])

    def test_bad_and_good_in_turn(self):
        day = [thing(0, 1, 0), step(0, 0, [of_thing(0)])]
        self.check(day + [bad(0, 0), good(0), bad(0, 0), good(0), good(0)], [1], [0], [1], [0], [-4])

    def test_it_is_not_bad(self):
        self.check_refused(SEVEN_THINGS, good(0), -4)
        self.check_refused(SIX_BAD, good(6), -4)
        self.check(SIX_BAD + [good(0), good(0)], [0], [-4])

    def test_bad_since_a_step_that_is_not_there_is_bad(self):
        self.check([thing(0, 1, 0), bad(0, 39), good(0)], [0], [0])

    def test_x_out_of_range(self):
        self.check_out_of_range(SIX_BAD, good, 0, 6)
        self.check_out_of_range([thing(0, 1, 0)] * 20, good, 0, 19)
        self.check_refused([step()], good(0), -1)
