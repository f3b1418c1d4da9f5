"""thing, step, release and value: their answers, ranges and refusals."""

from tests.helper import (
    AT_LEAST, BELOW, BILLION, LARGEST, SMALLEST, AskingCase, ask, bad, of_step, of_thing, recall, release, quick, step,
    step_of_rows, thing, value)

DAY = [
    thing(0, 3, 1), thing(-2, 2, 0),
    step(0, 5, [of_thing(0, 2)]), step(1, 0, [of_thing(1, 3), of_step(0)], [(0, AT_LEAST, 4)]),
    release(1), bad(0, 0), bad(1, 1),
]
TWENTY_THINGS = [thing(0, 1, 0)] * 20
FORTY_STEPS = [step()] * 40


class ThingTest(AskingCase):
    def test_numbers_from_0(self):
        self.assertEqual(ask([thing(0, 7, 3), thing(-5, -5, -5), thing(9, 10, 10)]), [[0], [1], [2]])

    def test_its_number_is_what_it_does(self):
        self.check([thing(-3, 4, 2), thing(6, 9, 7), step(0, 0, [of_thing(0)]), step(0, 0, [of_thing(1)]),
                    value(0), value(1)], [1, 2], [1, 7])

    def test_its_least_and_greatest_are_what_it_may_do(self):
        calls = [thing(-3, 4, -3), step(0, 0, [of_thing(0)]), bad(0, 0), [9, 0]]
        self.check(calls, [1, 1, -2, -2])
        self.check([thing(-3, 4, 4)] + calls[1:], [1, 1, -3, -3])
        ways = [thing(-3, 4, 4), step(0, 0, [of_thing(0)], []), step(0, 0, [], [(0, BELOW, 4)]), bad(0, 0), [9, 1]]
        self.check(ways, [1, 1, 0, -3])
        ways = [thing(-3, 4, 3), step(0, 0, [of_thing(0)], []), step(0, 0, [], [(0, AT_LEAST, 4)]), bad(0, 0), [9, 1]]
        self.check(ways, [1, 1, 0, 4])

    def test_least_out_of_range(self):
        self.check_out_of_range(DAY, lambda least: thing(least, least, least), -1000, 1000)
        self.check(DAY + [thing(1000, 1007, 1007)], [2])
        self.check(DAY + [thing(-1000, -993, -1000)], [2])

    def test_greatest_out_of_range(self):
        self.check_out_of_range(DAY, lambda greatest: thing(5, greatest, 5), 5, 12)
        self.check_out_of_range(DAY, lambda greatest: thing(-1000, greatest, -1000), -1000, -993)
        self.check_out_of_range(DAY, lambda greatest: thing(1000, greatest, 1000), 1000, 1007)

    def test_number_out_of_range(self):
        self.check_out_of_range(DAY, lambda number: thing(-3, 2, number), -3, 2)
        self.check_out_of_range(DAY, lambda number: thing(4, 4, number), 4, 4)

    def test_twenty_things_and_one_more(self):
        self.assertEqual(ask(TWENTY_THINGS + [thing(0, 1, 0)]), [[x] for x in range(20)] + [[-2]])
        self.check_refused(TWENTY_THINGS, thing(0, 1, 0), -2)
        self.check(TWENTY_THINGS + [thing(0, 1, 0), step(0, 0, [of_thing(20)]), step(0, 0, [of_thing(19)])],
                   [-2], [-1], [0])

    def test_out_of_range_comes_ahead_of_too_many(self):
        for call in (thing(-1001, -1000, -1000), thing(0, 8, 0), thing(0, 1, 2)):
            self.check_refused(TWENTY_THINGS, call, -1)


class StepTest(AskingCase):
    def test_numbers_from_0(self):
        self.assertEqual(ask([step(), step(2, 4), step(1, -4)]), [[0], [1], [2]])

    def test_op_out_of_range(self):
        self.check_out_of_range(DAY, lambda op: step(op), 0, 2)

    def test_c_out_of_range(self):
        self.check_out_of_range(DAY, lambda c: step(0, c), -1000000, 1000000)
        self.check(DAY + [step(0, 1000000), step(0, -1000000), value(2), value(3)], [1, 1000000], [1, -1000000])

    def test_times_out_of_range(self):
        self.check_out_of_range(DAY, lambda times: step(0, 0, [of_thing(0, times)]), -100, 100)
        self.check_out_of_range(DAY, lambda times: step(0, 0, [of_step(1, times)]), -100, 100)
        self.check(DAY + [step(0, 0, [of_step(0, 100)]), step(0, 0, [of_step(0, -100)]), value(2), value(3)],
                   [1, 700], [1, -700])

    def test_bound_out_of_range(self):
        for side in (BELOW, AT_LEAST):
            self.check_out_of_range(DAY, lambda bound: step(0, 0, [], [(0, side, bound)]), -BILLION, BILLION)

    def test_thing_that_is_not_there(self):
        self.check_out_of_range(DAY, lambda x: step(0, 0, [of_thing(x)]), 0, 1)
        self.check_refused([], step(0, 0, [of_thing(0)]), -1)

    def test_step_that_is_not_there(self):
        self.check_out_of_range(DAY, lambda k: step(0, 0, [of_step(k)]), 0, 1)
        self.check_out_of_range(DAY, lambda k: step(0, 0, [], [(k, AT_LEAST, 0)]), 0, 1)

    def test_things_and_steps_are_not_taken_for_one_another(self):
        more_things = [thing(0, 1, 0), thing(0, 1, 0), thing(0, 1, 0), step()]
        self.check(more_things + [step(0, 0, [of_thing(2)])], [1])
        self.check_refused(more_things, step(0, 0, [of_step(2)]), -1)
        self.check_refused(more_things, step(0, 0, [], [(2, AT_LEAST, 0)]), -1)
        more_steps = [thing(0, 1, 0), step(), step(), step()]
        self.check(more_steps + [step(0, 0, [of_step(2)]), step(0, 0, [], [(2, BELOW, 0)])], [3], [4])
        self.check_refused(more_steps, step(0, 0, [of_thing(2)]), -1)

    def test_its_own_number(self):
        self.check_refused([], step(0, 0, [of_step(0)]), -1)
        self.check_refused([], step(0, 0, [], [(0, BELOW, 0)]), -1)
        self.check_refused(DAY, step(0, 0, [of_step(2)]), -1)
        self.check_refused(DAY, step(0, 0, [], [(2, AT_LEAST, 0)]), -1)

    def test_kind_that_is_neither(self):
        self.check_out_of_range(DAY, lambda kind: step(0, 0, [(kind, 0, 1)]), 0, 1)
        self.check_out_of_range(DAY, lambda side: step(0, 0, [], [(0, side, 1)]), 0, 1)

    def test_how_many_threes(self):
        for many in (0, 1, 2, 7, 8):
            self.check(DAY + [step(0, 0, [of_thing(0)] * many), value(2)], [2], [1, many])
            self.check(DAY + [step(0, 0, [of_step(0)] * many), value(2)], [2], [1, 7 * many])
            self.check(DAY + [step(0, 9, [], [(0, AT_LEAST, 7)] * many), value(2)], [2], [1, 9])
        self.check(DAY + [step(0, 0, [of_thing(0)] * 8, [(0, AT_LEAST, 7)] * 8), value(2)], [2], [1, 8])
        for many in (9, 10, 13):
            self.check_refused(DAY, step(0, 0, [of_thing(0)] * many), -1)
            self.check_refused(DAY, step(0, 0, [], [(0, AT_LEAST, 7)] * many), -1)

    def test_rows_that_are_no_threes(self):
        for size in (1, 2, 4, 5, 22, 23, 25, 26, 38, 40):
            self.check_refused(DAY, step_of_rows(0, 0, [0] * size, []), -1)
            self.check_refused(DAY, step_of_rows(0, 0, [], [0] * size), -1)
            self.check_refused(DAY, step_of_rows(0, 0, ([0, 0, 1] * 14)[:size], [0, 1, 0]), -1)

    def test_a_wrong_three_behind_right_ones(self):
        for at in range(8):
            terms = [of_thing(1)] * 8
            terms[at] = of_thing(2)
            self.check_refused(DAY, step(0, 0, terms), -1)
            terms[at] = of_thing(0, 101)
            self.check_refused(DAY, step(0, 0, terms), -1)
            guards = [(1, AT_LEAST, 0)] * 8
            guards[at] = (2, AT_LEAST, 0)
            self.check_refused(DAY, step(0, 0, [], guards), -1)
            guards[at] = (0, AT_LEAST, BILLION + 1)
            self.check_refused(DAY, step(0, 0, [], guards), -1)

    def test_forty_steps_and_one_more(self):
        self.assertEqual(ask(FORTY_STEPS + [step()]), [[k] for k in range(40)] + [[-2]])
        self.check_refused(FORTY_STEPS, step(), -2)
        self.check(FORTY_STEPS + [step(), value(39), value(40)], [-2], [1, 0], [-1])

    def test_out_of_range_comes_ahead_of_too_many(self):
        for call in (step(3), step(0, 1000001), step(0, 0, [of_thing(0)]), step(0, 0, [of_step(40)]),
                     step(0, 0, [], [(40, BELOW, 0)]), step_of_rows(0, 0, [0], []), step_of_rows(0, 0, [], [0])):
            self.check_refused(FORTY_STEPS, call, -1)
        self.check_refused(FORTY_STEPS, step(0, 0, [of_step(39)]), -2)


class ReleaseTest(AskingCase):
    def test_answers_the_number_told(self):
        self.check([step(0, -8), release(0)], [1, -8])
        self.check([step(0, 0), release(0)], [1, 0])

    def test_a_step_without_a_number(self):
        day = [step(0, 0), step(0, 0, [], [(0, AT_LEAST, 1)])]
        self.check(day + [release(1), release(1)], [0], [-3])

    def test_as_the_day_was_whatever_is_bad(self):
        self.check([thing(0, 3, 2), step(0, 0, [of_thing(0)]), bad(0, 0), release(0)], [1, 2])

    def test_released_steps_are_told_by_recall_and_quick(self):
        day = [thing(0, 3, 2), step(0, 0, [of_thing(0)]), bad(0, 0)]
        self.check(day + [recall(), quick(), release(0), recall(), quick()], [0], [0], [1, 2], [1, 0], [1, 0])

    def test_k_out_of_range(self):
        self.check_out_of_range(DAY, release, 0, 1)
        self.check_out_of_range(FORTY_STEPS, release, 0, 39)
        self.check_refused([], release(0), -1)

    def test_released_already(self):
        self.check_refused(DAY, release(1), -3)
        self.check(DAY + [release(0), release(0), release(1)], [1, 7], [-3], [-3])

    def test_steps_may_come_behind_a_release(self):
        self.check(DAY + [step(0, 3), release(2), value(1)], [2], [1, 3], [1, 7])


class ValueTest(AskingCase):
    def test_answers_the_number_told(self):
        self.check(DAY + [value(0), value(1)], [1, 7], [1, 7])

    def test_a_step_without_a_number(self):
        self.check([step(0, 0), step(0, 0, [], [(0, AT_LEAST, 1)]), value(1)], [0])

    def test_as_the_day_was_whatever_is_bad(self):
        day = [thing(0, 3, 2), step(0, 0, [of_thing(0)])]
        self.check(day + [bad(0, 0), recall(), [9, 0], value(0)], [1, 1, 0, 0], [1, 2])

    def test_changes_nothing(self):
        self.check([step(0, 4), value(0), value(0), release(0), value(0)], [1, 4], [1, 4], [1, 4], [1, 4])

    def test_k_out_of_range(self):
        self.check_out_of_range(DAY, value, 0, 1)
        self.check_out_of_range(FORTY_STEPS, value, 0, 39)
        for k in (SMALLEST, -1, 0, 1, LARGEST):
            self.check_refused([], value(k), -1)
