"""again and as was, and every other call on a day with steps that were run again."""

from tests.helper import (
    AT_LEAST, BELOW, BILLION, GREATEST, SUM, AskingCase, again, as_was, bad, clear, counts, cut, good, looks, of_step,
    of_thing, quick, recall, release, replay, spread, step, thing, uses, value, why, witness)

# Step 0 uses the bad thing, 1 looks at 0, 2 is done only if 1 is below 6, 3 uses the bad thing and looks at 2.
DAY = [
    thing(0, 3, 1),
    step(SUM, 4, [of_thing(0)]), step(SUM, 0, [of_step(0)]), step(SUM, 7, [], [(1, BELOW, 6)]),
    step(SUM, 0, [of_thing(0), of_step(2, 10)]),
    release(1), release(2), release(3), bad(0, 0),
]


class AgainTest(AskingCase):
    def test_the_step_has_the_number_told(self):
        for v in (-BILLION, -1, 0, 1, 5, BILLION):
            self.check(DAY + [again(0, v), value(0)], [0], [1, v])

    def test_the_steps_behind_it_follow(self):
        self.check(DAY + [again(0, 5), value(1), value(2), value(3)], [0], [1, 5], [1, 7], [1, 71])
        self.check(DAY + [again(0, 6), value(1), value(2), value(3)], [0], [1, 6], [0], [0])
        self.check(DAY + [again(1, 6), value(0), value(1), value(2)], [0], [1, 5], [1, 6], [0])
        self.check(DAY + [again(2, 0), value(1), value(2), value(3)], [0], [1, 5], [1, 0], [1, 1])

    def test_a_step_that_would_not_be_done(self):
        day = [step(SUM, 1), step(SUM, 2, [], [(0, AT_LEAST, 2)]), step(SUM, 3, [of_step(1)]), value(1), value(2)]
        self.check(day + [again(1, 9), value(1), value(2)], [0], [0], [0], [1, 9], [1, 12])
        self.check(day + [again(2, 9), value(1), value(2)], [0], [0], [0], [0], [1, 9])

    def test_instead_of_what_was_told_before(self):
        self.check(DAY + [again(0, 9), again(0, 2), value(0), value(1), counts()],
                   [0], [0], [1, 2], [1, 2], [1, 4, 3, 1, 1])
        self.check(DAY + [again(0, 9), again(0, 2), as_was(0), value(0), as_was(0)], [0], [0], [0], [1, 5], [-4])

    def test_the_same_number_as_it_was_is_run_again_too(self):
        self.check(DAY + [again(0, 5), uses(), as_was(0), uses()], [0], [1, 3, 0], [0], [2, 0, 0, 3, 0])

    def test_its_bad_uses_are_gone(self):
        self.check(DAY + [uses(), again(0, 5), uses(), bad(0, 0), again(3, 5), uses(), bad(0, 0)],
                   [2, 0, 0, 3, 0], [0], [1, 3, 0], [1], [0], [0], [0])

    def test_bad_behind_again(self):
        day = [thing(0, 1, 0), thing(0, 1, 0), step(SUM, 0, [of_thing(0), of_thing(1)]), step(SUM, 0, [of_thing(1)])]
        self.check(day + [again(0, 3), bad(0, 0), bad(1, 0), uses(), as_was(0), bad(1, 0), uses()],
                   [0], [0], [1], [1, 1, 1], [0], [3], [3, 0, 0, 0, 1, 1, 1])

    def test_things_stay_bad(self):
        self.check(DAY + [again(0, 1), again(3, 1), counts(), good(0), good(0)],
                   [0], [0], [1, 4, 3, 1, 2], [0], [-4])

    def test_release_tells_what_came(self):
        self.check(DAY + [again(0, -8), release(0)], [0], [1, -8])
        self.check(DAY + [again(0, -8), release(0), as_was(0), value(0), release(0)], [0], [1, -8], [0], [1, 5], [-3])

    def test_recall(self):
        self.check(DAY + [recall()], [3, 1, 2, 3])
        self.check(DAY + [again(0, 5), recall()], [0], [1, 3])
        self.check(DAY + [again(0, 9), recall()], [0], [0])
        self.check(DAY + [again(1, 5), recall()], [0], [1, 3])
        self.check(DAY + [again(2, 5), recall()], [0], [2, 1, 3])
        self.check(DAY + [again(3, 5), recall()], [0], [2, 1, 2])

    def test_a_step_run_again_is_never_otherwise(self):
        # What came has nothing to do with what the step would be with its thing doing its number.
        self.check(DAY + [again(3, 999), recall(), witness(3), spread(3)], [0], [2, 1, 2], [0], [0, 999, 999])

    def test_quick(self):
        self.check(DAY + [quick()], [3, 1, 2, 3])
        self.check(DAY + [again(0, 9), quick()], [0], [1, 3])
        self.check(DAY + [again(1, 5), quick()], [0], [1, 3])
        self.check(DAY + [again(2, 5), quick()], [0], [2, 1, 3])
        self.check(DAY + [again(3, 5), quick()], [0], [2, 1, 2])
        self.check(DAY + [again(3, 5), again(0, 5), quick()], [0], [0])

    def test_a_step_run_again_breaks_only_its_own_way(self):
        day = [thing(0, 1, 0), step(SUM, 0, [of_thing(0)]), step(SUM, 0, [of_step(0)]), step(SUM, 0, [of_step(0)]),
               step(SUM, 0, [of_step(1), of_step(2)]), release(3), bad(0, 0)]
        self.check(day + [again(1, 0), quick(), recall(), again(2, 0), quick(), recall()],
                   [1, 3], [1, 3], [0], [0], [0])

    def test_witness(self):
        self.check(DAY + [witness(1), witness(2), witness(3)], [1, 1, 4, 0, 0], [1, 0, 2, 0], [1, 1, 70, 0, 0])
        self.check(DAY + [again(0, 5), witness(0), witness(1), witness(2), witness(3)],
                   [0], [0], [0], [1, 1, 70, 0])
        self.check(DAY + [again(3, 5), witness(1), witness(2), witness(3)], [1, 1, 4, 0], [1, 0, 2], [0])

    def test_histories_are_fewer(self):
        day = [thing(0, 7, 0)] + [step(SUM, 0, [of_thing(0)])] * 4 + [release(3), bad(0, 0)]
        self.check(day + [recall(), again(1, 0), recall(), witness(3), as_was(1), recall()],
                   [-8], [0], [1, 3], [1, 1, 1, 0, 0, 1], [0], [-8])

    def test_steps_told_later_look_at_it(self):
        day = [thing(0, 1, 0), step(GREATEST, 0, [of_thing(0)]), bad(0, 0), again(0, 8)]
        self.check(day + [step(SUM, 1, [of_step(0)]), value(1), why(1), release(1)], [1], [1, 9], [0], [1, 9])

    def test_looks_are_as_they_were(self):
        self.check(DAY + [looks(3), again(3, 8), looks(3)],
                   [0, 0, 2, 0, 0, 1, 1, 2, 10, 0], [0], [0, 0, 2, 0, 0, 1, 1, 2, 10, 0])

    def test_clear(self):
        self.check(DAY + [again(0, 8), clear(), counts(), as_was(0), step(SUM, 3), value(0), as_was(0)],
                   [0], [0, 0, 0, 0, 0], [-1], [0], [1, 3], [-4])

    def test_all_steps(self):
        day = [step()] * 40 + [again(k, k) for k in range(40)]
        self.check(day + [counts(), value(0), value(39), step()], [0, 40, 0, 0, 40], [1, 0], [1, 39], [-2])

    def test_k_out_of_range(self):
        self.check_out_of_range(DAY, lambda k: again(k, 0), 0, 3)
        self.check_out_of_range(DAY + [again(1, 4)], lambda k: again(k, 0), 0, 3)
        self.check_out_of_range([step()] * 40, lambda k: again(k, 0), 0, 39)
        self.check_refused([], again(0, 0), -1)
        self.check_refused([thing(0, 1, 0)], again(0, 0), -1)

    def test_v_out_of_range(self):
        self.check_out_of_range(DAY, lambda v: again(0, v), -BILLION, BILLION)
        self.check_out_of_range(DAY + [again(0, 4)], lambda v: again(0, v), -BILLION, BILLION)
        self.check(DAY + [again(0, 4), again(0, BILLION + 1), value(0), counts()], [-1], [1, 4], [1, 4, 3, 1, 1])


class AsWasTest(AskingCase):
    def test_it_was_not_run_again(self):
        self.check(DAY + [again(0, 9), as_was(0), value(0), value(1), value(2), counts()],
                   [0], [0], [1, 5], [1, 5], [1, 7], [1, 4, 3, 1, 0])

    def test_its_bad_uses_are_back(self):
        self.check(DAY + [again(0, 9), as_was(0), uses(), recall(), quick(), replay(3, 0)],
                   [2, 0, 0, 3, 0], [3, 1, 2, 3], [3, 1, 2, 3], [1, 7, 0, 0])

    def test_a_bad_use_that_came_meanwhile(self):
        day = [thing(0, 1, 0), step(SUM, 0, [of_thing(0)]), again(0, 9), bad(0, 0)]
        self.check(day + [uses(), as_was(0), uses()], [0], [0], [1, 0, 0])

    def test_only_that_step(self):
        self.check(DAY + [again(0, 9), again(2, 1), as_was(0), value(0), value(2), as_was(2), value(2)],
                   [0], [1, 5], [1, 1], [0], [1, 7])

    def test_again_and_as_was_in_turn(self):
        self.check(DAY + [again(0, 9), as_was(0), again(0, 8), value(0), as_was(0), as_was(0)],
                   [0], [0], [0], [1, 8], [0], [-4])

    def test_it_was_run_again_with_0(self):
        self.check(DAY + [again(0, 0), as_was(0), as_was(0)], [0], [0], [-4])

    def test_it_was_not_run_again_at_all(self):
        self.check_refused(DAY, as_was(0), -4)
        self.check_refused(DAY + [again(0, 9)], as_was(1), -4)
        self.check_refused(DAY + [again(0, 9), as_was(0)], as_was(0), -4)

    def test_k_out_of_range(self):
        self.check_out_of_range(DAY, as_was, 0, 3)
        self.check_out_of_range(DAY + [again(k, 0) for k in range(4)], as_was, 0, 3)
        self.check_out_of_range([step()] * 40, as_was, 0, 39)
        self.check_refused([], as_was(0), -1)
        self.check_refused([thing(0, 1, 0)], as_was(0), -1)


class CutRunAgainTest(AskingCase):
    def test_the_cut_of_the_day(self):
        self.check(DAY + [cut(), again(0, 6), again(3, 0), cut(), recall(), quick(), value(2)],
                   [2, 0, 3], [0], [0], [0], [0], [0], [0])
