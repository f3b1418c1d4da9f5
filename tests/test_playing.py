"""How the day is played: ops, times, guards and what comes of a step."""

from tests.helper import (
    AT_LEAST, BELOW, BILLION, GREATEST, LEAST, SUM, AskingCase, of_step, of_thing, step, thing, value)

THINGS = [thing(0, 7, 4), thing(-7, 0, -5), thing(0, 3, 0)]
# Step 0 has the number 6, step 1 has none, step 2 has -9.
STEPS = [step(SUM, 6), step(SUM, 0, [], [(0, BELOW, 6)]), step(SUM, -9)]


class PlayingCase(AskingCase):
    def comes(self, told, *expected):
        """The step, told behind the day above, has this number told."""
        self.check(THINGS + STEPS + [told, value(3)], list(expected))


class OpTest(PlayingCase):
    def test_c_alone(self):
        for op in (SUM, GREATEST, LEAST):
            for c in (-3, 0, 8):
                self.comes(step(op, c), 1, c)

    def test_sum(self):
        self.comes(step(SUM, 10, [of_thing(0), of_thing(1), of_step(0), of_step(2)]), 1, 6)
        self.comes(step(SUM, -1, [of_thing(0, 3), of_thing(1, -2), of_step(0, 0), of_step(2, 4)]), 1, -15)

    def test_greatest(self):
        self.comes(step(GREATEST, 1, [of_thing(0), of_thing(1), of_step(0), of_step(2)]), 1, 6)
        self.comes(step(GREATEST, 7, [of_thing(0), of_thing(1), of_step(0), of_step(2)]), 1, 7)
        self.comes(step(GREATEST, 1, [of_thing(0, 2), of_thing(1), of_step(0), of_step(2, -1)]), 1, 9)
        self.comes(step(GREATEST, -50, [of_thing(0, -3), of_thing(1), of_step(0, -1), of_step(2)]), 1, -5)

    def test_least(self):
        self.comes(step(LEAST, 1, [of_thing(0), of_thing(1), of_step(0), of_step(2)]), 1, -9)
        self.comes(step(LEAST, -10, [of_thing(0), of_thing(1), of_step(0), of_step(2)]), 1, -10)
        self.comes(step(LEAST, 1, [of_thing(0, -4), of_thing(1), of_step(0, -2), of_step(2)]), 1, -16)
        self.comes(step(LEAST, 99, [of_thing(0, 3), of_thing(1, -4), of_step(0, 2), of_step(2, -5)]), 1, 12)

    def test_zero_times_counts_as_zero(self):
        self.comes(step(SUM, 5, [of_thing(0, 0), of_step(0, 0)]), 1, 5)
        self.comes(step(GREATEST, -5, [of_thing(1, 0)]), 1, 0)
        self.comes(step(GREATEST, -5, [of_step(2, 0)]), 1, 0)
        self.comes(step(LEAST, 5, [of_thing(0, 0)]), 1, 0)
        self.comes(step(LEAST, 5, [of_step(0, 0)]), 1, 0)

    def test_the_same_several_times(self):
        self.comes(step(SUM, 0, [of_thing(0), of_thing(0, 2), of_step(0), of_step(0, -3)]), 1, 0)
        self.comes(step(GREATEST, 0, [of_thing(0), of_thing(0, 2)]), 1, 8)
        self.comes(step(LEAST, 9, [of_thing(0), of_thing(0, 2)]), 1, 4)

    def test_each_times_is_its_own(self):
        self.comes(step(SUM, 0, [of_thing(0, 100), of_thing(1, -100)]), 1, 900)
        self.comes(step(SUM, 0, [of_step(0, -100), of_step(2, 100)]), 1, -1500)


class GuardTest(PlayingCase):
    def test_at_least(self):
        self.comes(step(SUM, 8, [], [(0, AT_LEAST, 5)]), 1, 8)
        self.comes(step(SUM, 8, [], [(0, AT_LEAST, 6)]), 1, 8)
        self.comes(step(SUM, 8, [], [(0, AT_LEAST, 7)]), 0)

    def test_below(self):
        self.comes(step(SUM, 8, [], [(0, BELOW, 5)]), 0)
        self.comes(step(SUM, 8, [], [(0, BELOW, 6)]), 0)
        self.comes(step(SUM, 8, [], [(0, BELOW, 7)]), 1, 8)

    def test_below_zero(self):
        self.comes(step(SUM, 8, [], [(2, AT_LEAST, -10)]), 1, 8)
        self.comes(step(SUM, 8, [], [(2, AT_LEAST, -9)]), 1, 8)
        self.comes(step(SUM, 8, [], [(2, AT_LEAST, -8)]), 0)
        self.comes(step(SUM, 8, [], [(2, BELOW, -9)]), 0)
        self.comes(step(SUM, 8, [], [(2, BELOW, -8)]), 1, 8)

    def test_each_guard_must_allow(self):
        for at in range(8):
            guards = [(0, AT_LEAST, 6)] * 8
            self.comes(step(SUM, 8, [], guards), 1, 8)
            guards[at] = (0, BELOW, 6)
            self.comes(step(SUM, 8, [], guards), 0)

    def test_a_guard_is_no_term(self):
        self.comes(step(SUM, 8, [of_thing(0)], [(0, AT_LEAST, 6), (2, BELOW, 0)]), 1, 12)
        self.comes(step(GREATEST, 1, [of_thing(0)], [(0, AT_LEAST, 6)]), 1, 4)

    def test_guard_whose_step_has_no_number(self):
        for side in (AT_LEAST, BELOW):
            for bound in (-BILLION, 0, BILLION):
                self.comes(step(SUM, 8, [], [(1, side, bound)]), 0)
        self.comes(step(SUM, 8, [], [(0, AT_LEAST, 6), (1, AT_LEAST, -BILLION)]), 0)

    def test_term_whose_step_has_no_number(self):
        for op in (SUM, GREATEST, LEAST):
            for times in (-1, 0, 1):
                self.comes(step(op, 8, [of_step(1, times)]), 0)
                self.comes(step(op, 8, [of_thing(0), of_step(0), of_step(1, times), of_step(2)]), 0)

    def test_no_number_goes_on(self):
        day = THINGS + STEPS + [step(SUM, 1, [of_step(1)]), step(SUM, 1, [], [(3, BELOW, 5)]), step(SUM, 1)]
        self.check(day + [value(3), value(4), value(5)], [0], [0], [1, 1])


class FurthestTest(AskingCase):
    """Step 0 has 1000000, step 1 has 100000000, step 2 has -100000000."""

    DAY = [thing(0, 1, 1), step(SUM, 1000000), step(SUM, 0, [of_step(0, 100)]), step(SUM, 0, [of_step(0, -100)])]

    def comes(self, told, *expected):
        self.check(self.DAY + [told, value(3)], list(expected))

    def test_up_to_the_greatest(self):
        self.comes(step(SUM, -1, [of_step(1, 10)]), 1, BILLION - 1)
        self.comes(step(SUM, 0, [of_step(1, 10)]), 1, BILLION)
        self.comes(step(SUM, 1, [of_step(1, 10)]), 0)
        self.comes(step(SUM, 0, [of_step(1, 10), of_thing(0)]), 0)
        self.comes(step(SUM, 0, [of_step(1, 100)]), 0)

    def test_down_to_the_least(self):
        self.comes(step(SUM, 1, [of_step(2, 10)]), 1, 1 - BILLION)
        self.comes(step(SUM, 0, [of_step(2, 10)]), 1, -BILLION)
        self.comes(step(SUM, -1, [of_step(2, 10)]), 0)
        self.comes(step(SUM, 0, [of_step(2, 10), of_thing(0, -1)]), 0)

    def test_greatest_and_least(self):
        self.comes(step(GREATEST, 0, [of_step(1, 10)]), 1, BILLION)
        self.comes(step(GREATEST, 0, [of_step(1, 11)]), 0)
        self.comes(step(LEAST, 0, [of_step(1, -10)]), 1, -BILLION)
        self.comes(step(LEAST, 0, [of_step(1, -11)]), 0)

    def test_only_what_comes_of_it_counts(self):
        self.comes(step(SUM, 0, [of_step(1, 50), of_step(2, 49)]), 1, 100000000)
        self.comes(step(GREATEST, 5, [of_step(1, -100)]), 1, 5)
        self.comes(step(LEAST, 5, [of_step(1, 100)]), 1, 5)

    def test_what_hangs_on_one_that_came_too_far(self):
        day = self.DAY + [step(SUM, 0, [of_step(1, 11)]), step(SUM, 2, [of_step(3, 0)]),
                          step(SUM, 2, [], [(3, AT_LEAST, 0)])]
        self.check(day + [value(3), value(4), value(5)], [0], [0], [0])

    def test_guards_at_the_furthest_bounds(self):
        high = self.DAY + [step(SUM, 0, [of_step(1, 10)])]
        self.check(high + [step(SUM, 2, [], [(3, AT_LEAST, BILLION)]), step(SUM, 2, [], [(3, BELOW, BILLION)]),
                           value(4), value(5)], [1, 2], [0])
        low = self.DAY + [step(SUM, 0, [of_step(2, 10)])]
        self.check(low + [step(SUM, 2, [], [(3, AT_LEAST, -BILLION)]), step(SUM, 2, [], [(3, BELOW, -BILLION)]),
                          value(4), value(5)], [1, 2], [0])
