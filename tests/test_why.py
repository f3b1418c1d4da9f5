"""why: the shortest row from what is bad to a step."""

from tests.helper import (
    AT_LEAST, BELOW, BILLION, SUM, AskingCase, Model, again, as_was, ask, bad, good, guarded, looking, of_step,
    of_thing, release, small_days, some_day, step, thing, using, why)


class WhyTest(AskingCase):
    def test_a_step_with_a_bad_use_itself(self):
        day = [thing(0, 1, 0), using(0), bad(0, 0)]
        self.check(day + [why(0)], [1, 0])

    def test_a_bad_use_itself_is_shorter_than_any_other_row(self):
        day = [thing(0, 1, 0), using(0), step(SUM, 0, [of_step(0), of_thing(0)]), looking(1), bad(0, 0)]
        self.check(day + [why(1), why(2)], [1, 1], [2, 1, 2])

    def test_through_terms(self):
        day = [thing(0, 1, 0), using(0), step(), looking(1, 0), looking(2), bad(0, 0)]
        self.check(day + [why(0), why(1), why(2), why(3)], [1, 0], [0], [2, 0, 2], [3, 0, 2, 3])

    def test_through_guards_only(self):
        day = [thing(0, 1, 0), using(0), guarded(0), step(), guarded(2, 1), step(SUM, 0, [], [(3, BELOW, -5)]),
               bad(0, 0)]
        self.check(day + [why(1), why(2), why(3), why(4)], [2, 0, 1], [0], [3, 0, 1, 3], [4, 0, 1, 3, 4])

    def test_through_a_term_and_a_guard(self):
        day = [thing(0, 1, 0), using(0), looking(0), guarded(1), looking(2), bad(0, 0)]
        self.check(day + [why(3)], [4, 0, 1, 2, 3])

    def test_the_shortest_of_several(self):
        day = [thing(0, 1, 0), using(0), looking(0), looking(1), using(0), looking(2, 3), bad(0, 0)]
        self.check(day + [why(4)], [2, 3, 4])
        day = [thing(0, 1, 0), using(0), looking(0), looking(1), guarded(0), step(SUM, 0, [of_step(2)], [(3, 1, 0)]),
               bad(0, 0)]
        self.check(day + [why(4)], [3, 0, 3, 4])

    def test_the_lesser_step_at_the_first_place(self):
        day = [thing(0, 1, 0), using(0), using(0), looking(1, 0), bad(0, 0)]
        self.check(day + [why(2)], [2, 0, 2])
        day = [thing(0, 1, 0), using(0), looking(0), guarded(0), looking(2, 1), bad(0, 0)]
        self.check(day + [why(3)], [3, 0, 1, 3])

    def test_the_first_place_counts_ahead_of_later_ones(self):
        # From the step itself backwards 2 would come ahead of 3; from the beginning 0 comes ahead of 1.
        day = [thing(0, 1, 0), using(0), using(0), looking(1), looking(0), looking(2, 3), bad(0, 0)]
        self.check(day + [why(4)], [3, 0, 3, 4])
        day = [thing(0, 1, 0), using(0), using(0), looking(1), looking(0), looking(2), looking(3), guarded(4, 5),
               bad(0, 0)]
        self.check(day + [why(6)], [4, 0, 3, 5, 6])

    def test_a_second_place_where_rows_differ(self):
        day = [thing(0, 1, 0), using(0), looking(0), looking(0), looking(2), looking(1), looking(3, 4), bad(0, 0)]
        self.check(day + [why(5)], [4, 0, 1, 4, 5])

    def test_rows_broken_by_a_step_that_was_run_again(self):
        day = [thing(0, 1, 0), using(0), looking(0), looking(1), looking(0), looking(3), looking(2, 4), bad(0, 0)]
        self.check(day + [why(5)], [4, 0, 1, 2, 5])
        self.check(day + [again(1, 3), why(1), why(2), why(5)], [0], [0], [0], [4, 0, 3, 4, 5])
        self.check(day + [again(2, 3), again(3, 3), why(5), why(1)], [0], [2, 0, 1])
        self.check(day + [again(0, 3), why(0), why(1), why(5)], [0], [0], [0], [0])
        self.check(day + [again(5, 3), why(5), why(4)], [0], [3, 0, 3, 4])

    def test_a_longer_row_around_a_step_that_was_run_again(self):
        day = [thing(0, 1, 0), using(0), looking(0), looking(1), looking(0, 2), bad(0, 0), why(3)]
        self.check(day, [2, 0, 3])
        day = [thing(0, 1, 0), using(0), looking(0), looking(0), looking(2), looking(1, 3), bad(0, 0)]
        self.check(day + [why(4), again(1, 0), why(4), as_was(1), why(4)],
                   [3, 0, 1, 4], [0], [4, 0, 2, 3, 4], [0], [3, 0, 1, 4])

    def test_a_step_run_again_has_no_bad_use_but_others_have(self):
        day = [thing(0, 1, 0), using(0), using(0), looking(0, 1), bad(0, 0), again(0, 4)]
        self.check(day + [why(0), why(1), why(2)], [0], [1, 1], [2, 1, 2])

    def test_none(self):
        day = [thing(0, 1, 0), using(0), looking(0)]
        self.check(day + [why(0), why(1)], [0], [0])
        self.check(day + [bad(0, 1), why(0), why(1)], [0], [0], [0])
        self.check(day + [bad(0, 0), good(0), why(0), why(1)], [0], [0], [0])

    def test_whatever_the_numbers_are(self):
        # Neither times 0, nor a step that is never done, nor one number only makes a row shorter.
        day = [thing(4, 4, 4), step(SUM, 0, [of_thing(0, 0)]), step(SUM, 0, [], [(0, BELOW, -BILLION)]),
               step(SUM, 0, [of_step(1, 0)]), bad(0, 0)]
        self.check(day + [why(2)], [3, 0, 1, 2])

    def test_however_many_histories(self):
        day = [thing(0, 7, 0)] + [using(0)] * 39 + [looking(38, 5), bad(0, 0)]
        self.check(day + [why(39)], [2, 5, 39])

    def test_a_step_need_not_be_released(self):
        self.check([thing(0, 1, 0), using(0), bad(0, 0), why(0), release(0), why(0)], [1, 0], [1, 0], [1, 0])

    def test_k_out_of_range(self):
        day = [thing(0, 1, 0), using(0), looking(0), bad(0, 0)]
        self.check_out_of_range(day, why, 0, 1)
        self.check_out_of_range([step()] * 40, why, 0, 39)
        self.check_refused([], why(0), -1)
        self.check_refused([thing(0, 1, 0)], why(0), -1)

    def test_a_row_is_there_for_just_the_steps_that_hang(self):
        for model in small_days(some_day, 11, 500):
            calls = model.calls()
            given = ask(calls + [why(k) for k in range(len(model.steps))])[len(calls):]
            for k, answer in enumerate(given):
                self.assertEqual(answer != [0], model.hangs(k), calls)
                self.assertEqual(answer, model.answer(why(k)), calls)

    def test_drawn_days_with_many_rows(self):
        several = 0
        for model in small_days(some_woven_day, 12, 300):
            calls = model.calls()
            given = ask(calls + [why(k) for k in range(len(model.steps))])[len(calls):]
            self.assertEqual(given, [model.answer(why(k)) for k in range(len(model.steps))], calls)
            several += given[-1][0] > 2
        self.assertGreater(several, 50)


def some_woven_day(chance):
    """A few steps use the bad thing, all others look at two or three of the six ahead of them."""
    many = chance.randint(6, 11)
    steps = []
    for k in range(many):
        if k < 2 or chance.random() < 0.1:
            steps.append((SUM, 0, [(0, 0, 1)], []))
        else:
            ahead = chance.sample(range(max(0, k - 6), k), min(k, chance.randint(2, 3)))
            steps.append((SUM, 0, [(1, ahead[0], 1)], [(j, AT_LEAST, 0) for j in ahead[1:]]))
    reruns = {k: 1 for k in range(many) if chance.random() < 0.15}
    return Model([(0, 1, 0)], steps, [], {0: 0}, reruns)
