"""cut: the fewest steps to run again so that nothing released hangs on what is bad."""

import itertools
import random

from tests.helper import (
    AT_LEAST, BELOW, BILLION, SUM, AskingCase, Model, again, as_was, ask, bad, cut, good, guarded, looking, of_step,
    of_thing, quick, release, small_days, some_day, step, thing, using)


class CutTest(AskingCase):
    def test_nothing_released(self):
        self.check([thing(0, 1, 0), using(0), looking(0), bad(0, 0), cut()], [0])

    def test_nothing_bad(self):
        day = [thing(0, 1, 0), using(0), looking(0), release(0), release(1)]
        self.check(day + [cut()], [0])
        self.check(day + [bad(0, 2), cut()], [0], [0])
        self.check(day + [bad(0, 0), good(0), cut()], [0], [0])

    def test_nothing_released_hangs_on_what_is_bad(self):
        self.check([thing(0, 1, 0), using(0), step(), looking(1), release(2), bad(0, 0), cut()], [0])

    def test_a_released_step_with_a_bad_use(self):
        self.check([thing(0, 1, 0), using(0), release(0), bad(0, 0), cut()], [1, 0])

    def test_of_a_line_of_steps_the_one_nearest_to_what_is_bad(self):
        day = [thing(0, 1, 0), using(0), looking(0), guarded(1), looking(2), release(3), bad(0, 0)]
        self.check(day + [cut()], [1, 0])
        self.check(day + [release(1), cut()], [1, 0])

    def test_a_smallest_cut_of_one_step_where_several_would_do(self):
        # Two bad uses come together in step 2; 2, 3 or 4 would do.
        day = [thing(0, 1, 0), using(0), using(0), looking(0, 1), looking(2), looking(3), release(4), bad(0, 0)]
        self.check(day + [cut()], [1, 2])
        self.check(day + [release(3), cut()], [1, 2])
        self.check(day + [release(0), cut()], [2, 0, 1])

    def test_one_step_in_which_all_comes_together_late(self):
        day = [thing(0, 1, 0)] + [using(0)] * 6 + [looking(0, 1, 2), guarded(3, 4, 5), looking(6, 7), looking(8)]
        self.check(day + [release(9), bad(0, 0), cut()], [1, 8])
        self.check(day + [release(7), bad(0, 0), cut()], [1, 7])
        self.check(day + [release(6), release(7), release(9), bad(0, 0), cut()], [2, 6, 7])

    def test_cuts_of_several_steps(self):
        day = [thing(0, 1, 0), using(0), using(0), using(0)] + [release(k) for k in range(3)]
        self.check(day + [bad(0, 0), cut(), bad(0, 1), cut()], [3, 0, 1, 2], [2], [2, 1, 2])
        # Three steps lead to two, and these to three released ones: the two are the cut.
        day = [thing(0, 1, 0), using(0), using(0), using(0), looking(0, 1), guarded(1, 2),
               looking(3, 4), guarded(3, 4), looking(4, 3), bad(0, 0)] + [release(k) for k in (5, 6, 7)]
        self.check(day + [cut()], [2, 3, 4])

    def test_the_nearest_of_several_cuts_of_two_steps(self):
        # Two strands of three steps that cross in the middle.
        day = [thing(0, 1, 0), using(0), using(0), looking(0, 1), looking(0, 1), looking(2, 3), looking(2, 3),
               release(4), release(5), bad(0, 0)]
        self.check(day + [cut()], [2, 0, 1])

    def test_the_nearest_in_each_strand(self):
        # Steps 0 and 1 are narrow at 2, step 3 leads on to 4 alone; both end in released steps.
        day = [thing(0, 1, 0), using(0), using(0), looking(0, 1), using(0), looking(3), looking(2), looking(4, 5),
               release(5), release(4), release(6), bad(0, 0)]
        self.check(day + [cut()], [2, 2, 3])

    def test_a_flow_that_must_be_turned_back(self):
        # A greedy way 0 2 3 5 bars both others, and yet two steps are needed.
        day = [thing(0, 1, 0), using(0), using(0), looking(0), looking(2, 1), looking(2), looking(3),
               release(4), release(5), bad(0, 0)]
        self.check(day + [cut()], [2, 0, 1])

    def test_a_step_that_hangs_but_leads_to_nothing_released(self):
        day = [thing(0, 1, 0), using(0), looking(0), looking(0), release(2), bad(0, 0)]
        self.check(day + [cut()], [1, 0])
        day = [thing(0, 1, 0), using(0), using(0), looking(0, 1), looking(0), looking(2), release(4), bad(0, 0)]
        self.check(day + [cut()], [1, 2])

    def test_a_step_looked_at_several_times(self):
        day = [thing(0, 1, 0), using(0), using(0), looking(0, 0, 1, 1),
               step(SUM, 0, [of_step(2), of_step(2, -1)], [(2, AT_LEAST, 0), (2, BELOW, 9)]), release(3), bad(0, 0)]
        self.check(day + [cut()], [1, 2])

    def test_steps_that_were_run_again(self):
        day = [thing(0, 1, 0), using(0), using(0), looking(0, 1), looking(2), release(3), release(0), bad(0, 0)]
        self.check(day + [cut()], [2, 0, 1])
        self.check(day + [again(0, 1), cut()], [0], [1, 1])
        self.check(day + [again(1, 1), cut()], [0], [1, 0])
        self.check(day + [again(2, 1), cut()], [0], [1, 0])
        self.check(day + [again(3, 1), cut()], [0], [1, 0])
        self.check(day + [again(0, 1), again(1, 1), cut()], [0], [0])
        self.check(day + [again(0, 1), again(2, 1), cut()], [0], [0])
        self.check(day + [again(0, 1), as_was(0), cut()], [0], [2, 0, 1])

    def test_with_the_cut_run_again_there_is_nothing_left_to_cut(self):
        day = [thing(0, 1, 0), using(0), using(0), looking(0, 1), looking(2), release(3), release(0), bad(0, 0)]
        self.check(day + [again(0, -BILLION), again(1, BILLION), cut(), quick()], [0], [0])

    def test_whatever_the_numbers_are(self):
        day = [thing(4, 4, 4), step(SUM, 0, [of_thing(0, 0)]), step(SUM, 0, [], [(0, BELOW, -BILLION)]),
               release(1), bad(0, 0)]
        self.check(day + [cut()], [1, 0])

    def test_however_many_histories(self):
        day = [thing(0, 7, 0)] + [using(0)] * 39 + [looking(*range(8)), release(39), bad(0, 0)]
        self.check(day + [cut()], [1, 39])
        day += [release(k) for k in range(9)]
        self.check(day + [cut()], [9, 0, 1, 2, 3, 4, 5, 6, 7, 8])

    def test_changes_nothing(self):
        day = [thing(0, 1, 0), using(0), looking(0), release(1), bad(0, 0)]
        self.check(day + [cut(), cut(), quick(), as_was(0)], [1, 0], [1, 0], [1, 1], [-4])


def some_net(chance, least, greatest):
    """A day in which only what hangs on what matters: some uses, many looks, a few released steps."""
    many = chance.randint(least, greatest)
    share = chance.choice((0.05, 0.15, 0.3, 0.5))
    steps = []
    for k in range(many):
        ahead = [chance.randrange(max(0, k - 5), k) for place in range(chance.randint(1, 3))] if k > 2 else []
        terms = [(1, j, 1) for j in ahead if chance.random() < 0.5]
        terms += [(0, 0, 1)] if k <= 2 or chance.random() < share else []
        steps.append((SUM, 0, terms, [(j, AT_LEAST, 0) for j in ahead if (1, j, 1) not in terms]))
    first = chance.choice((0, many // 2, many - 3))
    released = chance.sample(range(first, many), chance.randint(1, min(5, many - first)))
    reruns = {k: 0 for k in range(many) if chance.random() < 0.05}
    return Model([(0, 1, 0)], steps, released, {0: chance.choice((0, 0, 2))}, reruns)


class MaskedDay:
    """The steps as bits, so that very many sets of steps can be tried."""

    def __init__(self, model):
        self.used = bits({k for k, x in model.uses()})
        self.looks = [bits(model.looked_at(k)) for k in range(len(model.steps))]
        self.released = bits(model.released)
        self.reruns = bits(model.reruns)

    def hanging(self, more):
        """What hangs on what is bad with more steps run again."""
        hanging, halted = 0, more | self.reruns
        for k, looks in enumerate(self.looks):
            if (self.used >> k & 1 or looks & hanging) and not halted >> k & 1:
                hanging |= 1 << k
        return hanging

    def cuts(self, size, among):
        """All cuts with so many steps, as bits, with what hangs on what is bad then."""
        sets = [(bits(some), self.hanging(bits(some))) for some in itertools.combinations(among, size)]
        return [(some, hanging) for some, hanging in sets if not hanging & self.released]

    def smallest_cuts(self, among):
        size = 0
        while not self.cuts(size, among):
            size += 1
        return self.cuts(size, among)


def bits(steps):
    return sum(1 << k for k in steps)


class DrawnCutTest(AskingCase):
    def test_small_days_against_all_sets_of_steps(self):
        several = 0
        for model in small_days(some_day, 21, 800):
            calls = model.calls()
            self.assertEqual(ask(calls + [cut()])[-1], model.answer(cut()), calls)
            several += len(model.smallest_cuts()) > 1
        self.assertGreater(several, 30)

    def check_nearest(self, calls, given, cuts):
        """Of these smallest cuts the nearest one is given, and with any other one more hangs."""
        nearest = bits(given[1:])
        self.assertEqual(given, [len(given) - 1] + sorted(set(given[1:])), calls)
        self.assertIn(nearest, [some for some, hanging in cuts], calls)
        fewest = dict(cuts)[nearest]
        for other, hanging in cuts:
            self.assertEqual(hanging & fewest, fewest, calls)
            self.assertEqual(hanging == fewest, other == nearest, calls)

    def test_nets_of_steps_against_all_sets_of_steps(self):
        chance = random.Random(22)
        sizes, several = {}, 0
        for turn in range(400):
            model = some_net(chance, 5, 11)
            calls = model.calls()
            given = ask(calls + [cut()])[-1]
            cuts = MaskedDay(model).smallest_cuts(range(len(model.steps)))
            self.check_nearest(calls, given, cuts)
            sizes[given[0]] = sizes.get(given[0], 0) + 1
            several += given[0] > 0 and len(cuts) > 1
        self.assertGreater(several, 100)
        self.assertTrue(all(sizes.get(size, 0) > 10 for size in (0, 1, 2, 3)), sizes)

    def test_full_nets_of_steps_against_sets_of_hanging_steps(self):
        # A step that does not hang on what is bad is in no smallest cut, so only the others are tried.
        chance = random.Random(23)
        sizes, several = {}, 0
        for turn in range(200):
            model = some_net(chance, 25, 40)
            calls = model.calls()
            given = ask(calls + [cut()])[-1]
            sizes[given[0]] = sizes.get(given[0], 0) + 1
            if given[0] <= 3:
                masked = MaskedDay(model)
                hanging = masked.hanging(0)
                cuts = masked.smallest_cuts([k for k in range(len(model.steps)) if hanging >> k & 1])
                self.check_nearest(calls, given, cuts)
                several += given[0] > 0 and len(cuts) > 1
        self.assertGreater(several, 50)
        self.assertTrue(all(sizes.get(size, 0) > 10 for size in (1, 2, 3)), sizes)

    def test_layers_of_steps(self):
        # Each step looks at all steps of the layer ahead: the first of the narrowest layers is the nearest cut.
        chance = random.Random(24)
        for turn in range(200):
            widths = [chance.randint(1, 8) for layer in range(5)]
            calls, layers = [thing(0, 1, 0)], []
            for width in widths:
                first = sum(len(layer) for layer in layers)
                calls += [layer_step(chance, layers)] * width
                layers.append(list(range(first, first + width)))
            calls += [release(k) for k in layers[-1]] + [bad(0, 0)]
            nearest = layers[widths.index(min(widths))]
            self.assertEqual(ask(calls + [cut()])[-1], [len(nearest)] + nearest, calls)


def layer_step(chance, layers):
    if not layers:
        return using(0)
    return looking(*layers[-1]) if chance.random() < 0.5 else guarded(*layers[-1])
