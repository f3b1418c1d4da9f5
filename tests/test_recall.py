"""recall, quick and witness."""

from tests.helper import (
    AT_LEAST, BELOW, BILLION, GREATEST, SUM, AskingCase, bad, good, of_step, of_thing, quick, recall, release, step,
    thing, value, witness)


def ten_uses(things, release_last=True):
    """Ten steps that each use one of the things in turn, all bad; two numbers each make 1024 histories."""
    calls = list(things)
    calls += [step(SUM, 0, [of_thing(k % len(things))]) for k in range(10)]
    calls += [step(SUM, 0, [of_step(9)])]
    calls += [release(10)] if release_last else []
    return calls + [bad(x, 0) for x in range(len(things))]


class RecallTest(AskingCase):
    def test_only_released_steps_rising(self):
        day = [thing(0, 1, 0)] + [step(SUM, 0, [of_thing(0)])] * 6
        day += [release(4), release(0), release(5), release(2), bad(0, 1)]
        self.check(day + [recall(), quick()], [3, 2, 4, 5], [3, 2, 4, 5])

    def test_rising_in_whatever_history_they_are_otherwise(self):
        day = [thing(0, 3, 0), step(SUM, 0, [of_thing(0)]),
               step(SUM, 0, [], [(0, AT_LEAST, 3)]), step(SUM, 0, [], [(0, AT_LEAST, 2)]),
               step(SUM, 0, [], [(0, AT_LEAST, 1)]), bad(0, 0)]
        self.check(day + [release(k) for k in range(4)] + [recall()], [4, 0, 1, 2, 3])

    def test_nothing_released(self):
        self.check([thing(0, 1, 0), step(SUM, 0, [of_thing(0)]), bad(0, 0), recall(), quick()], [1], [0], [0])

    def test_no_bad_uses(self):
        day = [thing(0, 1, 0), step(SUM, 0, [of_thing(0)]), release(0)]
        self.check(day + [recall(), quick(), witness(0)], [0], [0], [0])
        self.check(day + [bad(0, 1), recall(), quick(), witness(0)], [0], [0], [0], [0])

    def test_a_step_that_loses_its_number(self):
        day = [thing(0, 2, 2), step(SUM, 0, [of_thing(0)]), step(SUM, 7, [], [(0, AT_LEAST, 2)]), release(1), bad(0, 0)]
        self.check(day + [recall(), witness(1), value(1)], [1, 1], [1, 0, 0], [1, 7])

    def test_a_step_that_gets_a_number(self):
        day = [thing(0, 2, 0), step(SUM, 0, [of_thing(0)]), step(SUM, 7, [], [(0, AT_LEAST, 2)]), release(1), bad(0, 0)]
        self.check(day + [recall(), witness(1), value(1)], [1, 1], [1, 1, 7, 2], [0])

    def test_a_step_that_comes_too_far_in_some_history(self):
        day = [thing(0, 1, 0), step(SUM, 1000000), step(SUM, 0, [of_step(0, 100)]),
               step(SUM, 0, [of_step(1, 10), of_thing(0)]), release(2), bad(0, 0)]
        self.check(day + [value(2), recall(), witness(2)], [1, BILLION], [1, 2], [1, 0, 1])

    def test_what_hangs_but_is_never_otherwise(self):
        day = [thing(0, 3, 1), step(GREATEST, 5, [of_thing(0)]), step(SUM, 0, [of_step(0)]),
               step(SUM, 4, [], [(1, AT_LEAST, 5)]), release(0), release(1), release(2), bad(0, 0)]
        self.check(day + [recall(), quick()], [0], [3, 0, 1, 2])

    def test_a_thing_that_may_do_one_number_only(self):
        day = [thing(2, 2, 2), step(SUM, 0, [of_thing(0)]), release(0), bad(0, 0)]
        self.check(day + [recall(), quick(), witness(0)], [1], [0], [1, 0], [0])

    def test_what_two_uses_do_together(self):
        day = [thing(0, 1, 0), thing(0, 1, 0), step(SUM, 0, [of_thing(0)]), step(SUM, 0, [of_thing(1)]),
               step(SUM, 3, [], [(0, AT_LEAST, 1), (1, AT_LEAST, 1)]), release(2), bad(0, 0), bad(1, 0)]
        self.check(day + [recall(), witness(2)], [1, 2], [1, 1, 3, 1, 1])
        self.check(day + [good(1), recall(), witness(2)], [0], [0], [0])

    def test_uses_of_one_thing_do_as_they_like(self):
        day = [thing(0, 1, 0), step(SUM, 0, [of_thing(0)]), step(SUM, 0, [of_thing(0), of_step(0, -1)]), release(1)]
        self.check(day + [bad(0, 0), recall(), witness(1)], [2], [1, 1], [1, 1, 1, 0, 1])

    def test_1024_histories(self):
        day = ten_uses([thing(0, 1, 0)])
        self.check(day + [recall(), witness(10), witness(0)],
                   [10], [1, 10], [1, 1, 1] + [0] * 9 + [1], [1, 1, 1, 1] + [0] * 9)
        last_only = [thing(0, 7, 0), thing(0, 3, 0), thing(0, 3, 0), thing(0, 7, 0),
                     step(SUM, 0, [of_thing(0), of_thing(1), of_thing(2), of_thing(3)]),
                     step(SUM, 1, [], [(0, AT_LEAST, 20)]), step(SUM, 1, [], [(0, AT_LEAST, 21)]),
                     release(1), release(2), bad(0, 0), bad(1, 0), bad(2, 0), bad(3, 0)]
        self.check(last_only + [recall(), witness(1), witness(2)], [4], [1, 1], [1, 1, 1, 7, 3, 3, 7], [0])

    def test_more_than_1024_histories(self):
        day = ten_uses([thing(0, 1, 0)]) + [step(SUM, 0, [of_thing(0)])]
        self.check_refused(day, recall(), -8)
        self.check_refused(day, witness(0), -8)
        self.check_refused(day, witness(11), -8)
        self.check(day + [recall(), bad(0, 1), recall()], [-8], [10], [1, 10])
        self.check(day + [recall(), quick(), value(10)], [-8], [1, 10], [1, 0])

    def test_just_more_than_1024_histories(self):
        # 3 times 7 times 7 times 7 is 1029; nothing from 1025 to 1028 can be made.
        day = [thing(0, 2, 0), thing(0, 6, 0), thing(0, 6, 0), thing(0, 6, 0),
               step(SUM, 0, [of_thing(x) for x in range(4)]), bad(0, 0), bad(1, 0), bad(2, 0), bad(3, 0)]
        self.check(day + [recall(), witness(0)], [4], [-8], [-8])
        self.check(day + [good(0), recall(), witness(0)], [0], [0], [1, 1, 1, 0, 0, 1])

    def test_very_many_histories(self):
        day = [thing(0, 7, 0)] + [step(SUM, 0, [of_thing(0)])] * 40 + [bad(0, 0)]
        self.check(day + [recall(), witness(39), bad(0, 37), recall(), witness(39)],
                   [40], [-8], [-8], [3], [0], [1, 1, 1, 0, 0, 1])

    def test_too_many_histories_whatever_is_released(self):
        self.check(ten_uses([thing(0, 2, 0)], release_last=False) + [recall()], [-8])

    def test_many_uses_but_few_histories(self):
        things = [thing(x, x, x) for x in range(6)]
        steps = [step(SUM, 0, [of_thing(x) for x in range(6)])] * 40
        day = things + steps + [release(7)] + [bad(x, 0) for x in range(6)]
        self.check(day + [recall(), quick(), witness(7)], [240], [0], [1, 7], [0])
        day[3] = thing(2, 3, 3)
        day[-1] = bad(5, 39)
        self.check(day + [bad(3, 39), recall(), release(39), recall()], [4 * 40 + 2], [0], [1, 15], [1, 39])

    def test_recall_changes_nothing(self):
        day = ten_uses([thing(0, 1, 1)])
        self.check(day + [recall(), recall(), value(10), witness(10), recall(), quick()],
                   [1, 10], [1, 10], [1, 1], [1, 1, 0] + [0] * 10, [1, 10], [1, 10])


class QuickTest(AskingCase):
    def test_through_terms_and_guards(self):
        day = [thing(0, 1, 0), step(SUM, 0, [of_thing(0)]), step(), step(SUM, 0, [of_step(0)]),
               step(SUM, 0, [], [(2, BELOW, 5)]), step(SUM, 0, [of_step(1)], [(1, AT_LEAST, 0)]),
               step(SUM, 0, [of_step(1), of_step(3)]), step(SUM, 0, [], [(1, BELOW, 9), (0, BELOW, 9)])]
        day += [release(k) for k in (6, 5, 4, 3, 2, 1, 0)]
        self.check(day + [bad(0, 0), quick()], [1], [5, 0, 2, 3, 5, 6])
        self.check(day + [bad(0, 1), quick()], [0], [0])

    def test_only_released_steps(self):
        day = [thing(0, 1, 0), step(SUM, 0, [of_thing(0)]), step(SUM, 0, [of_step(0)]), bad(0, 0)]
        self.check(day + [quick(), release(1), quick()], [0], [1, 0], [1, 1])

    def test_a_term_that_counts_0_times(self):
        day = [thing(0, 1, 0), step(SUM, 0, [of_thing(0, 0)]), step(SUM, 0, [of_step(0, 0)]), release(1), bad(0, 0)]
        self.check(day + [quick(), recall()], [1, 1], [0])

    def test_a_step_that_is_never_done(self):
        day = [thing(0, 1, 0), step(), step(SUM, 0, [of_thing(0)], [(0, AT_LEAST, 1)]), release(1), release(0)]
        self.check(day + [bad(0, 0), quick(), recall()], [1], [1, 1], [0])

    def test_however_many_histories(self):
        day = [thing(0, 7, 0)] + [step(SUM, 0, [of_thing(0)])] * 40 + [release(k) for k in range(40)] + [bad(0, 0)]
        self.check(day + [quick(), recall()], [40] + list(range(40)), [-8])


class WitnessTest(AskingCase):
    def test_the_first_history_in_the_order(self):
        day = [thing(0, 2, 0), thing(-1, 1, 0), step(SUM, 0, [of_thing(1), of_thing(0)]), bad(0, 0), bad(1, 0)]
        self.check(day + [witness(0)], [1, 1, -1, -1, 0])
        sums = [step(SUM, 0, [], [(0, AT_LEAST, 2)]), step(SUM, 0, [], [(0, AT_LEAST, 3)])]
        self.check(day + sums + [witness(1), witness(2)], [1, 1, 0, 0, 2], [1, 1, 0, 1, 2])

    def test_uses_stand_in_order_of_steps_then_of_terms(self):
        day = [thing(0, 1, 0), thing(2, 3, 2), thing(4, 5, 4),
               step(SUM, 0, [of_thing(2), of_thing(0), of_thing(2)]), step(SUM, 0, [of_thing(1), of_thing(0)]),
               step(SUM, 0, [of_step(0, 100), of_step(1)])]
        day += [bad(0, 0), bad(1, 0), bad(2, 0)]
        self.check(day + [witness(0), witness(1), witness(2)],
                   [1, 1, 9, 4, 1, 2, 0], [1, 1, 3, 4, 0, 2, 1], [1, 1, 803, 4, 0, 2, 1])

    def test_the_first_history_may_be_otherwise(self):
        day = [thing(0, 3, 2), step(SUM, 0, [of_thing(0)]), step(SUM, 0, [of_thing(0)]), bad(0, 0)]
        self.check(day + [witness(0), witness(1)], [1, 1, 0, 0, 0], [1, 1, 0, 0, 0])

    def test_the_very_last_history(self):
        day = [thing(0, 3, 0), thing(-4, 1, 1), step(SUM, 0, [of_thing(0), of_thing(1)]),
               step(SUM, 8, [], [(0, AT_LEAST, 4)]), bad(0, 0), bad(1, 0)]
        self.check(day + [witness(1)], [1, 1, 8, 3, 1])

    def test_no_number_in_that_history(self):
        day = [thing(0, 1, 0), step(SUM, 0, [of_thing(0)]), step(SUM, 5, [], [(0, BELOW, 1)]), bad(0, 0)]
        self.check(day + [witness(1)], [1, 0, 1])

    def test_otherwise_in_no_history(self):
        day = [thing(0, 1, 0), step(SUM, 0, [of_thing(0)]), step(SUM, 5), step(GREATEST, 9, [of_step(0)]), bad(0, 0)]
        self.check(day + [witness(1), witness(2)], [0], [0])

    def test_a_step_need_not_be_released(self):
        day = [thing(0, 1, 0), step(SUM, 0, [of_thing(0)]), bad(0, 0)]
        self.check(day + [witness(0), release(0), witness(0)], [1, 1, 1, 1], [1, 0], [1, 1, 1, 1])

    def test_the_whole_history_with_uses_behind_the_step(self):
        day = [thing(0, 1, 0)] + [step(SUM, 0, [of_thing(0)])] * 4 + [bad(0, 0)]
        self.check(day + [witness(0), witness(3)], [1, 1, 1, 1, 0, 0, 0], [1, 1, 1, 0, 0, 0, 1])

    def test_k_out_of_range(self):
        day = [thing(0, 1, 0), step(SUM, 0, [of_thing(0)]), step(SUM, 5), bad(0, 0)]
        self.check_out_of_range(day, witness, 0, 1)
        self.check_out_of_range([step()] * 40, witness, 0, 39)
        self.check_refused([], witness(0), -1)

    def test_out_of_range_comes_ahead_of_too_many_histories(self):
        day = ten_uses([thing(0, 3, 0)])
        self.check_refused(day, witness(11), -1)
        self.check_refused(day, witness(-1), -1)
        self.check_refused(day, witness(10), -8)
