"""Promises 1 to 3, and all that is told of a day, over many small days."""

import random

from tests.helper import (
    BILLION, AskingCase, Model, again, ask, cut, quick, recall, replay, small_days, some_day, some_reruns, some_things,
    spread, uses, value, why, witness)


def some_plain_day(chance):
    """Sums without guards, nothing 0 times, no step looked at twice, bad things with a choice.

    The times and what came of steps run again are so small that no step comes beyond 1000000000: see the test below.
    """
    things = some_things(chance, chance.randint(1, 4), 1)
    steps = []
    free = []
    for k in range(chance.randint(1, 8)):
        chance.shuffle(free)
        looked = [free.pop() for place in range(chance.randint(0, min(2, len(free))))]
        used = chance.sample(range(len(things)), chance.choice((0, 0, 1, min(2, len(things)))))
        terms = [(1, j, chance.choice((-3, -1, 1, 2))) for j in looked]
        terms += [(0, x, chance.choice((-100, -1, 1, 3))) for x in used]
        chance.shuffle(terms)
        steps.append((0, chance.randint(-5, 5), terms, []))
        free.append(k)
    released = chance.sample(range(len(steps)), chance.randint(0, len(steps)))
    bads = {x: chance.choice((0, 0, 2)) for x in range(len(things)) if chance.random() < 0.6}
    return Model(things, steps, released, bads, some_reruns(chance, len(steps), 9))


class PromiseTest(AskingCase):
    def test_every_day_as_the_document_says(self):
        for model in small_days(some_day, 1, 1500):
            steps = range(len(model.steps))
            asked = [recall(), quick(), cut(), uses()]
            for k in steps:
                asked += [value(k), witness(k), spread(k), why(k)]
            calls = model.calls()
            given = ask(calls + asked)[len(calls):]
            self.assertEqual(given, [model.answer(call) for call in asked], calls)

    def test_promise_1_what_does_not_hang_is_the_same_in_every_history(self):
        fewer = 0
        for model in small_days(some_day, 2, 1500):
            calls = model.calls()
            steps = range(len(model.steps))
            given = ask(calls + [recall(), quick()] + [witness(k) for k in steps] + [spread(k) for k in steps]
                        + [value(k) for k in steps])[len(calls):]
            recalled, hanging = given[0][1:], given[1][1:]
            witnesses, spreads, values = given[2:2 + len(steps)], given[2 + len(steps):-len(steps)], given[-len(steps):]
            self.assertLessEqual(set(recalled), set(hanging), calls)
            self.assertEqual(recalled, [k for k in sorted(model.released) if witnesses[k] != [0]], calls)
            for k in steps:
                if not model.hangs(k):
                    self.assertEqual(witnesses[k], [0], calls)
                    self.assertEqual(spreads[k], [0, values[k][1], values[k][1]] if values[k][0] else [1], calls)
            fewer += recalled != hanging
        self.assertGreater(fewer, 50)

    def test_promise_2_recall_tells_just_what_quick_tells(self):
        some, with_reruns = 0, 0
        for model in small_days(some_plain_day, 3, 1500):
            calls = model.calls()
            given = ask(calls + [recall(), quick()])
            self.assertEqual(given[-2], given[-1], calls)
            self.assertEqual(given[-1], model.answer(quick()), calls)
            some += given[-1] != [0]
            with_reruns += given[-1] != [0] and len(model.reruns) > 0
        self.assertGreater(some, 300)
        self.assertGreater(with_reruns, 50)

    def test_promise_3_with_the_cut_run_again_nothing_released_is_otherwise(self):
        chance = random.Random(4)
        some = 0
        for model in small_days(some_day, 5, 1500):
            calls = model.calls()
            steps = ask(calls + [cut()])[-1][1:]
            for came in (-BILLION, BILLION, None, None):
                run = [again(k, chance.randint(-9, 9) if came is None else came) for k in steps]
                given = ask(calls + run + [recall(), quick(), cut()] + [witness(k) for k in model.released])
                self.assertEqual(given[len(calls):],
                                 [[0]] * len(run) + [[0], [0], [0]] + [[0]] * len(model.released), calls + run)
            some += len(steps) > 1
        self.assertGreater(some, 100)

    def test_promise_3_in_every_history(self):
        for model in small_days(some_day, 6, 300):
            calls = model.calls()
            for k in ask(calls + [cut()])[-1][1:]:
                model.reruns[k] = 7
            calls = model.calls()
            asked = [value(k) for k in sorted(model.released)]
            was = [number for answer in ask(calls + asked)[len(calls):] for number in answer]
            replays = [replay(*figures) for figures in model.histories()]
            self.assertEqual(ask(calls + replays)[len(calls):], [was] * len(replays), calls)

    def test_promise_2_needs_each_of_its_conditions(self):
        no_choice = Model([(2, 2, 2)], [(0, 0, [(0, 0, 1)], [])], [0], {0: 0})
        zero_times = Model([(0, 1, 0)], [(0, 0, [(0, 0, 0)], [])], [0], {0: 0})
        no_sum = Model([(0, 1, 0)], [(1, 5, [(0, 0, 1)], [])], [0], {0: 0})
        twice = Model([(0, 1, 0)], [(0, 0, [(0, 0, 1)], []), (0, 0, [(1, 0, 1), (1, 0, -1)], [])], [1], {0: 0})
        guarded = Model([(0, 1, 0)], [(0, 0, [(0, 0, 1)], []), (0, 0, [], [(0, 0, 2)])], [1], {0: 0})
        for model in (no_choice, zero_times, no_sum, twice, guarded):
            self.check(model.calls() + [recall(), quick()], [0], [1, model.released[0]])

    def test_beyond_promise_2_a_step_that_comes_too_far_in_every_history(self):
        # The words of playing hold: with no number in any history the step is otherwise in none.
        far = Model([(999, 1000, 1000)], [
            (0, 0, [(0, 0, 100)], []), (0, 0, [(1, 0, 100)], []), (0, 0, [(1, 1, 100)], []),
            (0, 0, [(1, 2, 100)], [])], [2, 3], {0: 0})
        self.check(far.calls() + [value(2), value(3), recall(), quick()], [1, BILLION], [0], [1, 2], [2, 2, 3])

    def test_beyond_promise_2_a_step_run_again_from_which_others_come_too_far(self):
        far = Model([(0, 1, 0)], [(0, 0, [], []), (0, 0, [(1, 0, 2), (0, 0, 1)], [])], [1], {0: 0}, {0: BILLION})
        self.check(far.calls() + [value(1), recall(), quick()], [0], [0], [1, 1])

    def test_beyond_promise_2_a_thing_whose_times_come_to_nothing(self):
        level = Model([(0, 1, 0)], [(0, 4, [(0, 0, 2), (0, 0, -2)], [])], [0], {0: 0})
        self.check(level.calls() + [recall(), quick()], [0], [1, 0])
