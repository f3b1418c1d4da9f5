"""replay: the released steps' numbers in one history."""

from tests.helper import (
    AT_LEAST, BELOW, LARGEST, SMALLEST, SUM, AskingCase, again, as_was, ask, bad, flat, good, of_step, of_thing, recall,
    release, replay, small_days, some_day, step, thing, value, witness)

DAY = [
    thing(0, 3, 1), thing(-2, 2, 0),
    step(SUM, 10, [of_thing(1, 5), of_thing(0)]), step(SUM, 0, [of_thing(0), of_step(0)], [(0, AT_LEAST, 8)]),
    step(SUM, -1), release(1), release(2), release(0), bad(0, 0), bad(1, 0),
]


class ReplayTest(AskingCase):
    def test_released_steps_rising(self):
        self.check(DAY + [replay(0, 1, 1), replay(2, 3, 0), replay(-1, 3, 2)],
                   [1, 11, 1, 12, 1, -1], [1, 23, 1, 23, 1, -1], [1, 8, 1, 10, 1, -1])

    def test_a_step_without_a_number(self):
        self.check(DAY + [replay(-1, 2, 2), replay(-2, 0, 0)], [1, 7, 0, 1, -1], [1, 0, 0, 1, -1])

    def test_only_released_steps(self):
        day = [thing(0, 3, 1), step(SUM, 10, [of_thing(0)]), step(SUM, 0, [of_step(0)]), bad(0, 0)]
        self.check(day + [replay(3), release(1), replay(3), release(0), replay(3)],
                   [], [1, 11], [1, 13], [1, 11], [1, 13, 1, 13])

    def test_nothing_released(self):
        day = [thing(0, 3, 1), step(SUM, 10, [of_thing(0)]), bad(0, 0)]
        self.check(day + [replay(3), replay(0), replay(4), replay()], [], [], [-1], [-1])
        self.check([replay(), step(), replay()], [], [0], [])

    def test_the_only_history_with_no_bad_uses(self):
        day = [thing(0, 3, 1), step(SUM, 10, [of_thing(0)]), release(0)]
        self.check(day + [replay()], [1, 11])
        self.check(day + [bad(0, 1), replay(), replay(1)], [0], [1, 11], [-1])
        self.check(day + [bad(0, 0), good(0), replay()], [1], [0], [1, 11])

    def test_the_numbers_of_the_things_are_the_day_as_it_was(self):
        self.check(DAY + [replay(0, 1, 1), value(0), value(1), value(2)], [1, 11, 1, 12, 1, -1],
                   [1, 11], [1, 12], [1, -1])

    def test_uses_stand_in_order_of_steps_then_of_terms(self):
        day = [thing(0, 1, 0), thing(2, 3, 2), thing(4, 5, 4),
               step(SUM, 0, [of_thing(2), of_thing(0, 10), of_thing(2)]), step(SUM, 0, [of_thing(1), of_thing(0, 10)]),
               release(0), release(1), bad(0, 0), bad(1, 0), bad(2, 0)]
        self.check(day + [replay(5, 0, 3, 1), replay(4, 1, 2, 0), replay(0, 5, 1, 3)],
                   [1, 10, 1, 13], [1, 18, 1, 2], [-1])

    def test_too_few_and_too_many_numbers(self):
        for row in ([], [0], [0, 1], [0, 1, 1, 1], [0] * 39, [0] * 40):
            self.check_refused(DAY, replay(*row), -1)

    def test_numbers_out_of_range(self):
        self.check_out_of_range(DAY, lambda number: replay(number, 1, 1), -2, 2)
        self.check_out_of_range(DAY, lambda number: replay(0, number, 1), 0, 3)
        self.check_out_of_range(DAY, lambda number: replay(0, 1, number), 0, 3)
        self.check_refused(DAY, replay(SMALLEST, LARGEST, SMALLEST), -1)

    def test_each_number_has_the_range_of_its_own_thing(self):
        self.check(DAY + [replay(-2, 1, 1), replay(1, -2, 1), replay(1, 3, 1), replay(3, 1, 1)],
                   [1, 1, 0, 1, -1], [-1], [1, 18, 1, 19, 1, -1], [-1])

    def test_the_whole_line_goes_on_behind_a_refused_row(self):
        self.check(DAY + [replay(0, 1), value(0), replay(*[7] * 40), value(0), replay(), value(0)],
                   [-1], [1, 11], [-1], [1, 11], [-1], [1, 11])

    def test_steps_that_were_run_again(self):
        self.check(DAY + [again(0, 8), replay(0, 1, 1), replay(3), replay()],
                   [0], [-1], [1, 8, 1, 11, 1, -1], [-1])
        self.check(DAY + [again(0, 7), replay(3)], [0], [1, 7, 0, 1, -1])
        self.check(DAY + [again(1, 99), replay(2, 3)], [0], [1, 23, 1, 99, 1, -1])
        self.check(DAY + [again(1, 99), again(0, 6), replay()], [0], [1, 6, 1, 99, 1, -1])
        self.check(DAY + [again(2, 99), replay(0, 1, 1)], [0], [1, 11, 1, 12, 1, 99])
        self.check(DAY + [again(0, 8), as_was(0), replay(3), replay(0, 1, 1)],
                   [0], [-1], [1, 11, 1, 12, 1, -1])

    def test_however_many_histories(self):
        day = [thing(0, 7, 0)] + [step(SUM, 0, [of_thing(0)])] * 40 + [release(39), release(0), bad(0, 0)]
        self.check(day + [recall(), replay(*[k % 8 for k in range(40)])], [-8], [1, 0, 1, 7])

    def test_more_bad_uses_than_a_row_can_hold(self):
        day = [thing(0, 0, 0)] * 2 + [step(SUM, 0, [of_thing(0), of_thing(1)])] * 21 + [bad(0, 0), bad(1, 1)]
        self.check(day + [replay(*[0] * 40), bad(1, 2), replay(*[0] * 40)], [41], [-1], [40], [])

    def test_changes_nothing(self):
        self.check(DAY + [replay(2, 3, 3), value(0), replay(0, 1, 1), witness(2)],
                   [1, 23, 1, 26, 1, -1], [1, 11], [1, 11, 1, 12, 1, -1], [0])

    def test_a_witness_replayed(self):
        day = [thing(0, 3, 1), step(SUM, 0, [of_thing(0)]), step(SUM, 5, [], [(0, BELOW, 3)]), release(1), bad(0, 0)]
        self.check(day + [witness(1), replay(3)], [1, 0, 3], [0])

    def test_drawn_days_in_every_history(self):
        for model in small_days(some_day, 31, 300):
            calls = model.calls()
            replays = [replay(*figures) for figures in model.histories()]
            given = ask(calls + replays)[len(calls):]
            self.assertEqual(given, [model.answer(call) for call in replays], calls)

    def test_drawn_days_hold_what_witness_tells(self):
        for model in small_days(some_day, 32, 300):
            calls = model.calls()
            model.released = sorted(model.released)
            for place, k in enumerate(model.released):
                answer = ask(calls + [witness(k)])[-1]
                if answer != [0]:
                    size = 2 if answer[1] == 0 else 3
                    numbers = split_told(ask(calls + [replay(*answer[size:])])[-1])
                    self.assertEqual(numbers[place], answer[1:size], calls)
                    self.assertEqual(flat(numbers), ask(calls + [replay(*answer[size:])])[-1], calls)


def split_told(numbers):
    """Numbers told one behind another, a list each."""
    split = []
    while numbers:
        size = 1 + numbers[0]
        split.append(numbers[:size])
        numbers = numbers[size:]
    return split
