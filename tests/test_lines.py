"""Drawn whole lines of all nineteen calls, held against a plain slow reading of the document."""

import random

from tests.helper import (
    BILLION, LARGEST, NAMES, SMALLEST, AskingCase, Model, again, as_was, ask, bad, clear, counts, cut, good, looks,
    quick, recall, release, replay, some_step, spread, step, step_of_rows, thing, uses, value, why, witness)

WRONG = (SMALLEST, -BILLION - 1, -1001, -101, -1, 3, 8, 40, 101, 1001, 1000001, BILLION + 1, LARGEST)
# How often each call is drawn, by its place, when a line has begun to be a day.
WEIGHTS = (1, 8, 30, 16, 8, 24, 3, 10, 8, 12, 14, 14, 12, 8, 9, 12, 8, 5, 6)
# Calls that play all histories or try all sets of steps: a line has at most 60 of them.
LONG_CALLS = (7, 9, 10, 12)


def one_below(chance, many):
    """A number from 0 to below many, seldom one that is not there."""
    return chance.randrange(many) if many > 0 and chance.random() < 0.93 else chance.choice((-1, many, many + 3))


def some_thing(chance):
    least = chance.choice((-3, -2, -1, -1, 0, 0, 0, 1, -1000, 1000))
    greatest = least + chance.choice((0, 1, 1, 2, 3, 7))
    return thing(least, greatest, chance.randint(least, greatest))


def some_woven_step(chance, things, steps):
    """A step that mostly looks at one or two others, with bounds that now and then allow it and now and then not."""
    terms, guards = [], []
    for place in range(chance.randint(1, 3)):
        times = chance.choice((-1, 0, 1, 1, 1, 2))
        if steps > 0 and (things == 0 or chance.random() < 0.6):
            terms.append((1, chance.randrange(steps), times))
        elif things > 0:
            terms.append((0, chance.randrange(things), times))
    if steps > 0 and chance.random() < 0.4:
        guards.append((chance.randrange(steps), chance.randint(0, 1), chance.randint(-2, 3)))
    return (chance.choice((0, 0, 1, 2)), chance.randint(-2, 2), terms, guards)


def some_row(chance, model):
    """A history, now and then one number short, long or off."""
    row = [chance.randint(*model.things[x][:2]) for k, x in model.uses()][:40]
    turn = chance.random()
    if turn < 0.1:
        row = row[:-1]
    elif turn < 0.2:
        row = (row + [0])[:40]
    elif turn < 0.3 and row:
        row[chance.randrange(len(row))] += chance.choice((-8, -2, -1, 1, 2, 8))
    return row


def some_call(chance, model, place):
    k = one_below(chance, len(model.steps))
    x = one_below(chance, len(model.things))
    since = chance.choice((0, 0, 0, 0, 1, 2, 4, 39))
    v = chance.choice((-BILLION, -2, 0, 0, 1, 3, BILLION))
    make_step = chance.choice((some_step, some_woven_step, some_woven_step))
    told_step = make_step(chance, len(model.things), len(model.steps))
    run = chance.choice(list(model.reruns)) if model.reruns and chance.random() < 0.7 else k
    made = (clear(), some_thing(chance), step(*told_step), release(k), value(k), bad(x, since), good(x), recall(),
            quick(), witness(k), spread(k), why(k), cut(), again(k, v), as_was(run), replay(*some_row(chance, model)),
            uses(), looks(k), counts())
    return made[place]


def spoilt(chance, call):
    """The call with one of its numbers another one, but for the counts of its rows."""
    if call[0] == 2:
        size = call[3]
        op, c, terms, guards = call[1], call[2], call[4:4 + size], call[5 + size:]
        which = chance.choice((0, 1, 2, 2, 3, 3))
        if which == 0:
            op = chance.choice(WRONG)
        elif which == 1:
            c = chance.choice(WRONG)
        else:
            row = (terms, guards)[which - 2]
            if row and chance.random() < 0.7:
                row[chance.randrange(len(row))] = chance.choice(WRONG)
            else:
                row += [0] * chance.choice((1, 2, 4))
        return step_of_rows(op, c, terms, guards)
    first = 2 if call[0] == 15 else 1
    if len(call) > first:
        call = list(call)
        call[chance.randrange(first, len(call))] = chance.choice(WRONG)
    return call


def some_line(chance, size, most_steps):
    """A line of calls, and what the slow reading answers to each."""
    model = Model()
    calls, expected, long_calls = [], [], 0
    while len(calls) < size:
        place = chance.choices(range(len(NAMES)), WEIGHTS)[0]
        if len(model.steps) < 4 and chance.random() < 0.7:
            place = 1 if len(model.things) < 2 else 2
        if place == 2 and len(model.steps) >= most_steps or place in LONG_CALLS and long_calls == 60:
            continue
        if place == 1 and len(model.things) >= 3 and chance.random() < 0.8:
            continue
        call = some_call(chance, model, place)
        if chance.random() < 0.06:
            call = spoilt(chance, call)
        long_calls += place in LONG_CALLS
        calls.append(call)
        expected.append(model.answer(call))
    return calls, expected


class LinesTest(AskingCase):
    def check_line(self, calls, expected):
        given = ask(calls)
        for at, answer in enumerate(given):
            self.assertEqual(answer, expected[at], f"call {at} of {calls}")

    def test_short_lines(self):
        chance = random.Random(41)
        for turn in range(400):
            self.check_line(*some_line(chance, chance.randint(1, 25), 7))

    def test_lines(self):
        chance = random.Random(42)
        seen = {}
        for turn in range(250):
            calls, expected = some_line(chance, 90, 7)
            self.check_line(calls, expected)
            for call, answer in zip(calls, expected):
                told = answer[0] if answer and answer[0] < 0 and len(answer) == 1 else 0
                seen[call[0], told] = seen.get((call[0], told), 0) + 1
        # Every call is answered and refused in each way that the document tells, but where a day must be full for it.
        ways = [(place, 0) for place in range(19)]
        ways += [(place, -1) for place in (1, 2, 3, 4, 5, 6, 9, 10, 11, 13, 14, 15, 17)]
        ways += [(3, -3), (6, -4), (14, -4), (7, -8), (9, -8), (10, -8)]
        for way in ways:
            self.assertGreater(seen.get(way, 0), 5, way)

    def test_longest_lines(self):
        chance = random.Random(43)
        for turn in range(15):
            calls, expected = some_line(chance, 300, 9)
            self.check_line(calls, expected)
