"""Promises 1 and 2, and all of recall, quick and witness, over many small days."""

import random

from tests.helper import BILLION, AskingCase, Model, ask, quick, recall, value, witness


def some_things(chance, many, least_width):
    things = []
    for x in range(many):
        least = chance.randint(-4, 4)
        greatest = least + chance.randint(least_width, 3)
        things.append((least, greatest, chance.randint(least, greatest)))
    return things


def some_step(chance, things, k):
    terms = []
    for place in range(chance.randint(0, 3)):
        times = chance.choice((-2, -1, 0, 1, 1, 2))
        if k > 0 and chance.random() < 0.5:
            terms.append((1, chance.randrange(k), times))
        else:
            terms.append((0, chance.randrange(things), times))
    guards = []
    for place in range(chance.choice((0, 0, 1, 2)) if k > 0 else 0):
        bound = chance.choice((-BILLION, -3, -1, 0, 1, 2, 4, BILLION))
        guards.append((chance.randrange(k), chance.randint(0, 1), bound))
    return (chance.randint(0, 2), chance.randint(-3, 3), terms, guards)


def some_day(chance):
    things = some_things(chance, chance.randint(1, 4), 0)
    steps = [some_step(chance, len(things), k) for k in range(chance.randint(1, 7))]
    released = chance.sample(range(len(steps)), chance.randint(0, len(steps)))
    bads = {x: chance.choice((0, 0, 1, 3)) for x in range(len(things)) if chance.random() < 0.6}
    return Model(things, steps, released, bads)


def some_plain_day(chance):
    """Sums without guards, nothing 0 times, no step looked at twice, bad things with a choice.

    The times are so small that no step comes beyond 1000000000: see the test below.
    """
    things = some_things(chance, chance.randint(1, 4), 1)
    steps = []
    free = []
    for k in range(chance.randint(1, 8)):
        chance.shuffle(free)
        looked = [free.pop() for place in range(chance.randint(0, min(2, len(free))))]
        used = chance.sample(range(len(things)), chance.choice((0, 0, 1, min(2, len(things)))))
        terms = [(1, j, chance.choice((-3, -1, 1, 2))) for j in looked]
        terms += [(0, x, chance.choice((-100, -1, 1, 3))) for x in used]
        chance.shuffle(terms)
        steps.append((0, chance.randint(-5, 5), terms, []))
        free.append(k)
    released = chance.sample(range(len(steps)), chance.randint(0, len(steps)))
    bads = {x: chance.choice((0, 0, 2)) for x in range(len(things)) if chance.random() < 0.6}
    return Model(things, steps, released, bads)


class PromiseTest(AskingCase):
    def small_days(self, make, seed, many):
        chance = random.Random(seed)
        days = []
        while len(days) < many:
            model = make(chance)
            if model.many() <= 256:
                days.append(model)
        return days

    def test_recall_quick_and_witness_as_the_document_says(self):
        for model in self.small_days(some_day, 1, 1500):
            calls = model.calls()
            steps = range(len(model.steps))
            given = ask(calls + [recall(), quick()] + [witness(k) for k in steps] + [value(k) for k in steps])
            was = [[0] if number is None else [1, number] for number in model.play({})]
            expected = [model.recall(), model.quick()] + [model.witness(k) for k in steps] + was
            self.assertEqual(given[len(calls):], expected, calls)
            if model.bads:
                self.assertEqual(given[len(calls) - 1], [len(model.uses())], calls)

    def test_promise_1_what_recall_tells_quick_tells_too(self):
        fewer = 0
        for model in self.small_days(some_day, 2, 1500):
            calls = model.calls()
            given = ask(calls + [recall(), quick()] + [witness(k) for k in range(len(model.steps))])[len(calls):]
            told, hanging, witnesses = given[0][1:], given[1][1:], given[2:]
            self.assertLessEqual(set(told), set(hanging), calls)
            self.assertEqual(told, [k for k in sorted(model.released) if witnesses[k] != [0]], calls)
            for k in range(len(model.steps)):
                if not model.hangs(k):
                    self.assertEqual(witnesses[k], [0], calls)
            fewer += told != hanging
        self.assertGreater(fewer, 50)

    def test_promise_2_recall_tells_just_what_quick_tells(self):
        some = 0
        for model in self.small_days(some_plain_day, 3, 1500):
            calls = model.calls()
            given = ask(calls + [recall(), quick()])
            self.assertEqual(given[-2], given[-1], calls)
            self.assertEqual(given[-1], model.quick(), calls)
            some += given[-1] != [0]
        self.assertGreater(some, 300)

    def test_promise_2_needs_each_of_its_conditions(self):
        no_choice = Model([(2, 2, 2)], [(0, 0, [(0, 0, 1)], [])], [0], {0: 0})
        zero_times = Model([(0, 1, 0)], [(0, 0, [(0, 0, 0)], [])], [0], {0: 0})
        no_sum = Model([(0, 1, 0)], [(1, 5, [(0, 0, 1)], [])], [0], {0: 0})
        twice = Model([(0, 1, 0)], [(0, 0, [(0, 0, 1)], []), (0, 0, [(1, 0, 1), (1, 0, -1)], [])], [1], {0: 0})
        guarded = Model([(0, 1, 0)], [(0, 0, [(0, 0, 1)], []), (0, 0, [], [(0, 0, 2)])], [1], {0: 0})
        for model in (no_choice, zero_times, no_sum, twice, guarded):
            self.check(model.calls() + [recall(), quick()], [0], [1, model.released[0]])

    def test_beyond_promise_2_a_step_that_comes_too_far_in_every_history(self):
        # The words of playing hold: with no number in any history the step is otherwise in none.
        far = Model([(999, 1000, 1000)], [
            (0, 0, [(0, 0, 100)], []), (0, 0, [(1, 0, 100)], []), (0, 0, [(1, 1, 100)], []),
            (0, 0, [(1, 2, 100)], [])], [2, 3], {0: 0})
        self.check(far.calls() + [value(2), value(3), recall(), quick()], [1, BILLION], [0], [1, 2], [2, 2, 3])

    def test_beyond_promise_2_a_thing_whose_times_come_to_nothing(self):
        level = Model([(0, 1, 0)], [(0, 4, [(0, 0, 2), (0, 0, -2)], [])], [0], {0: 0})
        self.check(level.calls() + [recall(), quick()], [0], [1, 0])
