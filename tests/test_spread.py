"""spread: the least and the greatest number of a step, and whether it may have none."""

from tests.helper import (
    AT_LEAST, BELOW, BILLION, GREATEST, LEAST, SUM, AskingCase, again, bad, good, of_step, of_thing, recall, release,
    spread, step, thing, value, witness)

# Step 0 may have 0 to 3, and has 1.
DAY = [thing(0, 3, 1), step(SUM, 0, [of_thing(0)]), bad(0, 0)]


class SpreadTest(AskingCase):
    def comes(self, told, *expected):
        """The spread of a step that is told behind the day above."""
        self.check(DAY + [told, spread(1)], list(expected))

    def test_a_number_in_every_history(self):
        self.check(DAY + [spread(0)], [0, 0, 3])
        self.comes(step(SUM, 5, [of_step(0, -2)]), 0, -1, 5)
        self.comes(step(GREATEST, 2, [of_step(0)]), 0, 2, 3)
        self.comes(step(LEAST, 2, [of_step(0)]), 0, 0, 2)

    def test_the_same_number_in_every_history(self):
        self.comes(step(SUM, -7), 0, -7, -7)
        self.comes(step(GREATEST, 3, [of_step(0)]), 0, 3, 3)

    def test_a_number_in_some_histories(self):
        self.comes(step(SUM, 5, [of_step(0)], [(0, AT_LEAST, 2)]), 1, 7, 8)
        self.comes(step(SUM, 5, [of_step(0)], [(0, AT_LEAST, 3)]), 1, 8, 8)
        self.comes(step(SUM, 5, [of_step(0)], [(0, BELOW, 1)]), 1, 5, 5)
        self.comes(step(SUM, 5, [of_step(0)], [(0, AT_LEAST, 1), (0, BELOW, 3)]), 1, 6, 7)

    def test_a_number_in_no_history(self):
        self.comes(step(SUM, 5, [of_step(0)], [(0, AT_LEAST, 4)]), 1)
        self.comes(step(SUM, 5, [of_step(0)], [(0, BELOW, 0)]), 1)

    def test_the_day_as_it_was_does_not_count(self):
        # The step has 1 in the day as it was, but each use of the thing is told to do another number there.
        day = [thing(0, 3, 1), thing(2, 2, 2), step(SUM, 0, [of_thing(0)], []), bad(0, 0)]
        self.check(day + [step(SUM, 9, [], [(0, BELOW, 1)]), value(1), spread(1)], [0], [1, 9, 9])
        self.check(day + [step(SUM, 9, [], [(0, AT_LEAST, 1)]), value(1), spread(1)], [1, 9], [1, 9, 9])

    def test_a_step_that_comes_too_far_in_some_history(self):
        day = [thing(0, 1, 0), step(SUM, 1000000), step(SUM, 0, [of_step(0, 100)]),
               step(SUM, 0, [of_step(1, 10), of_thing(0)]), step(SUM, 0, [of_step(1, -10), of_thing(0, -1)]),
               step(SUM, 1, [of_step(1, 10), of_thing(0)]), bad(0, 0)]
        self.check(day + [spread(2), spread(3), spread(4)], [1, BILLION, BILLION], [1, -BILLION, -BILLION], [1])

    def test_with_no_bad_uses(self):
        day = [thing(0, 3, 1), step(SUM, 4, [of_thing(0)]), step(SUM, 0, [], [(0, BELOW, 5)])]
        self.check(day + [spread(0), spread(1)], [0, 5, 5], [1])
        self.check(day + [bad(0, 1), spread(0), spread(1)], [0], [0, 5, 5], [1])
        self.check(day + [bad(0, 0), good(0), spread(0), spread(1)], [0], [0, 5, 5], [1])

    def test_what_several_uses_do_together(self):
        day = [thing(0, 2, 0), thing(-1, 1, 0), step(SUM, 0, [of_thing(0, 3), of_thing(1, -2)]),
               step(SUM, 0, [of_thing(0), of_step(0)]), step(SUM, 1, [of_step(1, -1)], [(1, BELOW, 9)])]
        day += [bad(0, 0), bad(1, 0)]
        self.check(day + [spread(0), spread(1), spread(2)], [0, -2, 8], [0, -2, 10], [1, -7, 3])
        self.check(day + [bad(0, 1), spread(0), spread(1), spread(2)], [2], [0, -2, 2], [0, -2, 4], [0, -3, 3])

    def test_a_step_need_not_be_released(self):
        self.check(DAY + [spread(0), release(0), spread(0)], [0, 0, 3], [1, 1], [0, 0, 3])

    def test_a_step_that_was_run_again(self):
        self.check(DAY + [step(SUM, 0, [of_step(0)], [(0, AT_LEAST, 2)]), again(0, 5), spread(0), spread(1)],
                   [0, 5, 5], [0, 5, 5])
        self.check(DAY + [step(SUM, 0, [of_step(0)], [(0, AT_LEAST, 2)]), again(1, -5), spread(0), spread(1)],
                   [0, 0, 3], [0, -5, -5])

    def test_just_1024_histories(self):
        day = [thing(0, 1, 0)] + [step(SUM, 0, [of_thing(0)])] * 10
        day += [step(SUM, 0, [of_step(k) for k in range(8)]), step(SUM, 0, [of_step(10), of_step(8), of_step(9)]),
                step(SUM, 3, [of_step(11)], [(11, AT_LEAST, 10)]), bad(0, 0)]
        self.check(day + [spread(11), spread(12)], [10], [0, 0, 10], [1, 13, 13])

    def test_more_than_1024_histories(self):
        day = [thing(0, 1, 0)] + [step(SUM, 0, [of_thing(0)])] * 11 + [bad(0, 0)]
        self.check_refused(day, spread(0), -8)
        self.check_refused(day, spread(10), -8)
        self.check(day + [step(SUM, 4), spread(11)], [-8])
        day = [thing(0, 2, 0), thing(0, 6, 0), thing(0, 6, 0), thing(0, 6, 0),
               step(SUM, 0, [of_thing(x) for x in range(4)]), bad(0, 0), bad(1, 0), bad(2, 0), bad(3, 0)]
        self.check(day + [spread(0), good(0), spread(0)], [-8], [0], [0, 0, 18])

    def test_a_step_that_is_run_again_makes_histories_fewer(self):
        day = [thing(0, 1, 0)] + [step(SUM, 0, [of_thing(0)])] * 11 + [bad(0, 0)]
        self.check(day + [spread(10), recall(), witness(10), again(4, 9), spread(10), spread(4)],
                   [-8], [-8], [-8], [0], [0, 0, 1], [0, 9, 9])

    def test_k_out_of_range(self):
        self.check_out_of_range(DAY, spread, 0, 0)
        self.check_out_of_range([step()] * 40, spread, 0, 39)
        self.check_refused([], spread(0), -1)
        self.check_refused([thing(0, 1, 0)], spread(0), -1)

    def test_out_of_range_comes_ahead_of_too_many_histories(self):
        day = [thing(0, 7, 0)] + [step(SUM, 0, [of_thing(0)])] * 6 + [bad(0, 0)]
        self.check_refused(day, spread(6), -1)
        self.check_refused(day, spread(-1), -1)
        self.check_refused(day, spread(5), -8)

    def test_changes_nothing(self):
        self.check(DAY + [spread(0), value(0), spread(0), witness(0)], [0, 0, 3], [1, 1], [0, 0, 3], [1, 1, 0, 0])
