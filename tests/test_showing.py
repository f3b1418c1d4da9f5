"""uses, looks and counts."""

from tests.helper import (
    AT_LEAST, BELOW, BILLION, GREATEST, LEAST, SUM, AskingCase, again, as_was, bad, clear, counts, good, looks, of_step,
    of_thing, release, step, step_of_rows, thing, uses)


class UsesTest(AskingCase):
    def test_in_order_of_their_steps(self):
        day = [thing(0, 1, 0), thing(0, 1, 0), step(SUM, 0, [of_thing(1)]), step(SUM, 0, [of_thing(0)]),
               step(), step(SUM, 0, [of_thing(1)])]
        self.check(day + [bad(0, 0), uses(), bad(1, 0), uses()], [1], [1, 1, 0], [3], [3, 0, 1, 1, 0, 3, 1])

    def test_in_the_order_in_which_things_first_stand_in_the_terms(self):
        day = [thing(0, 1, 0)] * 3 + [
            step(SUM, 0, [of_thing(2), of_thing(0), of_thing(2), of_thing(1), of_thing(0)]),
            step(SUM, 0, [of_thing(1), of_step(0), of_thing(1), of_thing(2)])]
        self.check(day + [bad(0, 0), bad(1, 0), bad(2, 0), uses(), good(2), uses()],
                   [5, 0, 2, 0, 0, 0, 1, 1, 1, 1, 2], [0], [3, 0, 0, 0, 1, 1, 1])

    def test_since_that_step_or_an_earlier_one(self):
        day = [thing(0, 1, 0)] + [step(SUM, 0, [of_thing(0)])] * 3
        for since, expected in ((0, [3, 0, 0, 1, 0, 2, 0]), (1, [2, 1, 0, 2, 0]), (2, [1, 2, 0]), (3, [0]), (39, [0])):
            self.check(day + [bad(0, since), uses()], expected)

    def test_however_often_it_counts(self):
        day = [thing(4, 4, 4), step(SUM, 0, [of_thing(0, 0)]), step(SUM, 0, [of_thing(0, -1), of_thing(0, 1)]),
               step(SUM, 0, [], [(0, AT_LEAST, 1)]), step(SUM, 0, [of_thing(0)], [(2, BELOW, -5)])]
        self.check(day + [bad(0, 0), uses()], [3, 0, 0, 1, 0, 3, 0])

    def test_not_of_a_step_that_was_run_again(self):
        day = [thing(0, 1, 0)] + [step(SUM, 0, [of_thing(0)])] * 3 + [bad(0, 0), again(1, 0)]
        self.check(day + [uses(), as_was(1), uses()], [2, 0, 0, 2, 0], [0], [3, 0, 0, 1, 0, 2, 0])

    def test_none(self):
        self.check([uses()], [0])
        self.check([thing(0, 1, 0), step(SUM, 0, [of_thing(0)]), uses()], [0])
        self.check([thing(0, 1, 0), step(), bad(0, 0), uses()], [0])


class LooksTest(AskingCase):
    def test_as_told(self):
        day = [thing(0, 1, 0), thing(0, 1, 0), step(GREATEST, -1000000), step(LEAST, 7, [of_step(0, -100)]),
               step(SUM, 1000000, [of_thing(1, 100), of_step(1, 0), of_thing(0), of_thing(1, 2)],
                    [(1, BELOW, -BILLION), (0, AT_LEAST, BILLION), (1, BELOW, -BILLION)]),
               step(SUM, 0, [], [(2, AT_LEAST, 3)])]
        self.check(day + [looks(0), looks(1), looks(2), looks(3)],
                   [1, -1000000, 0, 0],
                   [2, 7, 1, 1, 0, -100, 0],
                   [0, 1000000, 4, 0, 1, 100, 1, 1, 0, 0, 0, 1, 0, 1, 2,
                    3, 1, 0, -BILLION, 0, 1, BILLION, 1, 0, -BILLION],
                   [0, 0, 0, 1, 2, 1, 3])

    def test_the_longest_rows(self):
        terms, guards = [0, 0, 5] * 4 + [1, 0, -5] * 4, [0, 0, 9] * 8
        day = [thing(0, 1, 0), step(), step_of_rows(LEAST, 3, terms, guards)]
        self.check(day + [looks(1)], [2, 3, 8] + terms + [8] + guards)

    def test_whatever_came_of_it(self):
        day = [thing(0, 1, 0), step(SUM, 3, [of_thing(0)]), looks(0)]
        self.check(day + [bad(0, 0), release(0), again(0, 44), looks(0)], [1], [1, 3], [0], [0, 3, 1, 0, 0, 1, 0])

    def test_k_out_of_range(self):
        day = [thing(0, 1, 0)] * 3 + [step(), step()]
        self.check_out_of_range(day, looks, 0, 1)
        self.check_out_of_range([step()] * 40, looks, 0, 39)
        self.check_refused([], looks(0), -1)
        self.check_refused([thing(0, 1, 0)], looks(0), -1)


class CountsTest(AskingCase):
    def test_each_by_itself(self):
        self.check([counts()], [0, 0, 0, 0, 0])
        self.check([thing(0, 1, 0), counts()], [1, 0, 0, 0, 0])
        self.check([step(), counts()], [0, 1, 0, 0, 0])
        self.check([step(), release(0), counts()], [0, 1, 1, 0, 0])
        self.check([thing(0, 1, 0), bad(0, 39), counts()], [1, 0, 0, 1, 0])
        self.check([step(), again(0, 4), counts()], [0, 1, 0, 0, 1])

    def test_all_together(self):
        day = [thing(0, 1, 0)] * 7 + [step()] * 6 + [release(k) for k in (5, 1, 3, 0)]
        day += [bad(x, 0) for x in (6, 2, 4)] + [again(k, 2) for k in (4, 0)]
        self.check(day + [counts()], [7, 6, 4, 3, 2])
        self.check(day + [bad(2, 5), again(0, 8), release(5), counts()], [7, 6, 4, 3, 2])
        self.check(day + [good(2), as_was(0), counts()], [7, 6, 4, 2, 1])
        self.check(day + [clear(), counts()], [0, 0, 0, 0, 0])

    def test_the_most_of_everything(self):
        day = [thing(0, 1, 0)] * 21 + [step()] * 41 + [release(k) for k in range(41)]
        day += [bad(x, 0) for x in range(21)] + [again(k, 2) for k in range(41)]
        self.check(day + [counts()], [20, 40, 40, 6, 40])
