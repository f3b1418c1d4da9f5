"""What the tests share: the calls as lists, asking, and a plain slow reading of the document to compare with."""

import itertools
import random
import unittest

from badthings.desk import answers

SMALLEST = -9223372036854775808
LARGEST = 9223372036854775807
BILLION = 1000000000
SUM, GREATEST, LEAST = 0, 1, 2
BELOW, AT_LEAST = 0, 1
# The calls' names, by their places.
NAMES = ("clear", "thing", "step", "release", "value", "bad", "good", "recall", "quick", "witness", "spread", "why",
         "cut", "again", "as_was", "replay", "uses", "looks", "counts")


def clear():
    return [0]


def thing(least, greatest, number):
    return [1, least, greatest, number]


def step(op=SUM, c=0, terms=(), guards=()):
    return step_of_rows(op, c, flat(terms), flat(guards))


def step_of_rows(op, c, terms, guards):
    return [2, op, c, len(terms), *terms, len(guards), *guards]


def release(k):
    return [3, k]


def value(k):
    return [4, k]


def bad(x, since):
    return [5, x, since]


def good(x):
    return [6, x]


def recall():
    return [7]


def quick():
    return [8]


def witness(k):
    return [9, k]


def spread(k):
    return [10, k]


def why(k):
    return [11, k]


def cut():
    return [12]


def again(k, v):
    return [13, k, v]


def as_was(k):
    return [14, k]


def replay(*row):
    return [15, len(row), *row]


def uses():
    return [16]


def looks(k):
    return [17, k]


def counts():
    return [18]


def of_thing(x, times=1):
    return (0, x, times)


def of_step(k, times=1):
    return (1, k, times)


def using(*things):
    return step(SUM, 0, [of_thing(x) for x in things])


def looking(*steps):
    return step(SUM, 0, [of_step(k) for k in steps])


def guarded(*steps):
    return step(SUM, 0, [], [(k, AT_LEAST, 0) for k in steps])


def flat(rows):
    return [number for row in rows for number in row]


def split_answers(given):
    """The flat list of answers as a list for each call."""
    split = []
    at = 0
    while at < len(given):
        size = given[at]
        split.append(given[at + 1:at + 1 + size])
        if len(split[-1]) != size:
            raise AssertionError("an answer is cut off")
        at += 1 + size
    return split


def ask(calls):
    """The answers to a list of calls, one list each."""
    split = split_answers(answers(flat(calls)))
    if len(split) != len(calls):
        raise AssertionError(f"{len(calls)} calls, {len(split)} answers")
    return split


def last(calls):
    return ask(calls)[-1]


def probe():
    """Calls that together show all that a day of up to eight steps and things holds."""
    calls = [counts(), uses(), recall(), quick(), cut()]
    for k in range(9):
        calls += [value(k), looks(k), why(k), witness(k), spread(k)]
    calls += [as_was(k) for k in range(9)]
    calls += [thing(0, 1, 0), step(), step_of_rows(SUM, 0, [0, 0, 1], [])]
    calls += [bad(x, since) for x in range(9) for since in (0, 39)]
    calls += [good(x) for x in range(9)]
    calls += [release(k) for k in range(9)]
    return calls


class AskingCase(unittest.TestCase):
    def check(self, calls, *expected):
        """The last calls of the line are answered as expected."""
        self.assertEqual(ask(calls)[-len(expected):], [list(answer) for answer in expected])

    def check_refused(self, setup, call, refusal):
        """The call is refused with this number alone, and all is as if it had not come."""
        given = ask(setup + [call] + probe())
        self.assertEqual(given[len(setup)], [refusal], call)
        self.assertEqual(given[len(setup) + 1:], ask(setup + probe())[len(setup):], call)

    def check_out_of_range(self, setup, make, least, greatest):
        """make(number) is refused with -1 beyond the range on both sides, and not at its ends."""
        for number in (SMALLEST, least - 1, greatest + 1, LARGEST):
            self.check_refused(setup, make(number), -1)
        for number in (least, greatest):
            self.assertNotEqual(last(setup + [make(number)]), [-1], number)


def within(number, least, greatest):
    return least <= number <= greatest


def told(number):
    return [0] if number is None else [1, number]


def threes(row):
    return [tuple(row[at:at + 3]) for at in range(0, len(row), 3)]


def arguments_of(call):
    """A call's arguments, its rows as lists."""
    if call[0] == 2:
        size = call[3]
        return [call[1], call[2], call[4:4 + size], call[5 + size:]]
    if call[0] == 15:
        return [call[2:]]
    return call[1:]


class Model:
    """A plain slow reading of the document: what is told is kept, and all else is worked out anew each time.

    Only small days are for it: it tries all sets of steps for a cut and all rows for the shortest one.
    """

    def __init__(self, things=(), steps=(), released=(), bads=None, reruns=None):
        self.things = list(things)
        self.steps = list(steps)
        self.released = list(released)
        self.bads = dict(bads or {})
        self.reruns = dict(reruns or {})

    def calls(self):
        """Calls that tell just this day."""
        calls = [thing(*parts) for parts in self.things]
        calls += [step(*parts) for parts in self.steps]
        calls += [release(k) for k in self.released]
        calls += [bad(x, since) for x, since in self.bads.items()]
        calls += [again(k, v) for k, v in self.reruns.items()]
        return calls

    # The words of the document's sections 1 and 2.

    def play(self, doing):
        numbers = []
        for k in range(len(self.steps)):
            numbers.append(self.reruns[k] if k in self.reruns else self.come_of(k, numbers, doing))
        return numbers

    def come_of(self, k, numbers, doing):
        op, c, terms, guards = self.steps[k]
        for j, side, bound in guards:
            if numbers[j] is None or (numbers[j] >= bound) != (side == AT_LEAST):
                return None
        parts = [c]
        for kind, which, times in terms:
            if kind == 1 and numbers[which] is None:
                return None
            does = numbers[which] if kind == 1 else doing.get((k, which), self.things[which][2])
            parts.append(does * times)
        outcome = (sum, max, min)[op](parts)
        return outcome if abs(outcome) <= BILLION else None

    def as_it_was(self):
        return self.play({})

    def uses(self):
        found = []
        for k, (op, c, terms, guards) in enumerate(self.steps):
            for kind, x, times in terms:
                is_bad = kind == 0 and self.bads.get(x, 40) <= k and k not in self.reruns
                if is_bad and (k, x) not in found:
                    found.append((k, x))
        return found

    def histories(self):
        ranges = [range(self.things[x][0], self.things[x][1] + 1) for k, x in self.uses()]
        return [list(figures) for figures in itertools.product(*ranges)]

    def many(self):
        many = 1
        for k, x in self.uses():
            many *= self.things[x][1] - self.things[x][0] + 1
        return many

    def played(self, figures):
        return self.play(dict(zip(self.uses(), figures)))

    def looked_at(self, k):
        op, c, terms, guards = self.steps[k]
        return {which for kind, which, times in terms if kind == 1} | {which for which, side, bound in guards}

    def hangs(self, k, more=()):
        """Walks back from a step to all that it looks at; more are further steps, taken as run again."""
        used = {j for j, x in self.uses()}
        seen, todo = set(), [k]
        while todo:
            j = todo.pop()
            if j in seen or j in self.reruns or j in more:
                continue
            if j in used:
                return True
            seen.add(j)
            todo += self.looked_at(j)
        return False

    def rows(self, k):
        """All rows to a step, in any order."""
        if k in self.reruns:
            return []
        found = [[k]] if k in {j for j, x in self.uses()} else []
        for j in self.looked_at(k):
            found += [row + [k] for row in self.rows(j)]
        return found

    def smallest_cuts(self):
        """Each smallest cut with the steps that hang on what is bad with it run again."""
        everything = range(len(self.steps))
        for size in range(len(self.steps) + 1):
            found = [some for some in itertools.combinations(everything, size)
                     if not any(self.hangs(k, some) for k in self.released)]
            if found:
                return [(list(some), {k for k in everything if self.hangs(k, some)}) for some in found]

    # The calls.

    def answer(self, call):
        return getattr(self, "answer_" + NAMES[call[0]])(*arguments_of(call))

    def is_step(self, k):
        return within(k, 0, len(self.steps) - 1)

    def is_thing(self, x):
        return within(x, 0, len(self.things) - 1)

    def answer_clear(self):
        self.__init__()
        return [0]

    def answer_thing(self, least, greatest, number):
        if not (within(least, -1000, 1000) and within(greatest, least, least + 7) and within(number, least, greatest)):
            return [-1]
        if len(self.things) == 20:
            return [-2]
        self.things.append((least, greatest, number))
        return [len(self.things) - 1]

    def answer_step(self, op, c, terms, guards):
        if not within(op, 0, 2) or not within(c, -1000000, 1000000):
            return [-1]
        if any(len(row) not in (0, 3, 6, 9, 12, 15, 18, 21, 24) for row in (terms, guards)):
            return [-1]
        for kind, which, times in threes(terms):
            there = {0: self.is_thing, 1: self.is_step}.get(kind, lambda which: False)
            if not there(which) or not within(times, -100, 100):
                return [-1]
        for which, side, bound in threes(guards):
            if not self.is_step(which) or side not in (0, 1) or not within(bound, -BILLION, BILLION):
                return [-1]
        if len(self.steps) == 40:
            return [-2]
        self.steps.append((op, c, threes(terms), threes(guards)))
        return [len(self.steps) - 1]

    def answer_release(self, k):
        if not self.is_step(k):
            return [-1]
        if k in self.released:
            return [-3]
        self.released.append(k)
        return told(self.as_it_was()[k])

    def answer_value(self, k):
        return told(self.as_it_was()[k]) if self.is_step(k) else [-1]

    def answer_bad(self, x, since):
        if not self.is_thing(x) or not within(since, 0, 39):
            return [-1]
        if len([other for other in self.bads if other != x]) == 6:
            return [-2]
        self.bads[x] = since
        return [len(self.uses())]

    def answer_good(self, x):
        if not self.is_thing(x):
            return [-1]
        return [-4] if self.bads.pop(x, None) is None else [0]

    def answer_recall(self):
        if self.many() > 1024:
            return [-8]
        was = self.as_it_was()
        days = [self.played(figures) for figures in self.histories()]
        found = [k for k in sorted(self.released) if any(numbers[k] != was[k] for numbers in days)]
        return [len(found)] + found

    def answer_quick(self):
        found = [k for k in sorted(self.released) if self.hangs(k)]
        return [len(found)] + found

    def answer_witness(self, k):
        if not self.is_step(k):
            return [-1]
        if self.many() > 1024:
            return [-8]
        was = self.as_it_was()[k]
        for figures in self.histories():
            number = self.played(figures)[k]
            if number != was:
                return [1] + told(number) + figures
        return [0]

    def answer_spread(self, k):
        if not self.is_step(k):
            return [-1]
        if self.many() > 1024:
            return [-8]
        found = {self.played(figures)[k] for figures in self.histories()}
        numbers = sorted(found - {None})
        return [int(None in found)] + numbers[:1] + numbers[-1:]

    def answer_why(self, k):
        if not self.is_step(k):
            return [-1]
        rows = self.rows(k)
        shortest = [row for row in rows if len(row) == min(len(other) for other in rows)]
        first = min(shortest, default=[])
        return [len(first)] + first

    def answer_cut(self):
        cuts = self.smallest_cuts()
        nearest, hanging = min(cuts, key=lambda found: len(found[1]))
        for other, others_hanging in cuts:
            if other != nearest and not hanging < others_hanging:
                raise AssertionError(f"{nearest} is not nearer than {other}")
        return [len(nearest)] + nearest

    def answer_again(self, k, v):
        if not self.is_step(k) or not within(v, -BILLION, BILLION):
            return [-1]
        self.reruns[k] = v
        return [0]

    def answer_as_was(self, k):
        if not self.is_step(k):
            return [-1]
        return [-4] if self.reruns.pop(k, None) is None else [0]

    def answer_replay(self, row):
        ranges = [self.things[x][:2] for k, x in self.uses()]
        if len(row) != len(ranges) or not all(within(figure, *ends) for figure, ends in zip(row, ranges)):
            return [-1]
        numbers = self.played(row)
        return flat(told(numbers[k]) for k in sorted(self.released))

    def answer_uses(self):
        return [len(self.uses())] + flat(self.uses())

    def answer_looks(self, k):
        if not self.is_step(k):
            return [-1]
        op, c, terms, guards = self.steps[k]
        return [op, c, len(terms)] + flat(terms) + [len(guards)] + flat(guards)

    def answer_counts(self):
        return [len(self.things), len(self.steps), len(self.released), len(self.bads), len(self.reruns)]


def some_things(chance, many, least_width):
    things = []
    for x in range(many):
        least = chance.randint(-4, 4)
        greatest = least + chance.randint(least_width, 3)
        things.append((least, greatest, chance.randint(least, greatest)))
    return things


def some_step(chance, things, k):
    terms = []
    for place in range(chance.randint(0, 3)):
        times = chance.choice((-2, -1, 0, 1, 1, 2))
        if k > 0 and (things == 0 or chance.random() < 0.5):
            terms.append((1, chance.randrange(k), times))
        elif things > 0:
            terms.append((0, chance.randrange(things), times))
    guards = []
    for place in range(chance.choice((0, 0, 1, 2)) if k > 0 else 0):
        bound = chance.choice((-BILLION, -3, -1, 0, 1, 2, 4, BILLION))
        guards.append((chance.randrange(k), chance.randint(0, 1), bound))
    return (chance.randint(0, 2), chance.randint(-3, 3), terms, guards)


def some_reruns(chance, steps, furthest=BILLION):
    share = chance.choice((0, 0, 0.1, 0.3))
    return {k: chance.choice((-furthest, -2, 0, 1, 3, furthest)) for k in range(steps) if chance.random() < share}


def some_day(chance):
    things = some_things(chance, chance.randint(1, 4), 0)
    steps = [some_step(chance, len(things), k) for k in range(chance.randint(1, 7))]
    released = chance.sample(range(len(steps)), chance.randint(0, len(steps)))
    bads = {x: chance.choice((0, 0, 1, 3)) for x in range(len(things)) if chance.random() < 0.6}
    return Model(things, steps, released, bads, some_reruns(chance, len(steps)))


def small_days(make, seed, many):
    """Days that are drawn alike each time, with few histories."""
    chance = random.Random(seed)
    days = []
    while len(days) < many:
        model = make(chance)
        if model.many() <= 256:
            days.append(model)
    return days
