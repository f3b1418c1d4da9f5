"""What the tests share: the calls as lists, asking, and a plain model of the document to compare with."""

import itertools
import unittest

from badthings.desk import answers

SMALLEST = -9223372036854775808
LARGEST = 9223372036854775807
BILLION = 1000000000
SUM, GREATEST, LEAST = 0, 1, 2
BELOW, AT_LEAST = 0, 1


def clear():
    return [0]


def thing(least, greatest, number):
    return [1, least, greatest, number]


def step(op=SUM, c=0, terms=(), guards=()):
    return step_of_rows(op, c, flat(terms), flat(guards))


def step_of_rows(op, c, terms, guards):
    return [2, op, c, len(terms), *terms, len(guards), *guards]


def release(k):
    return [3, k]


def value(k):
    return [4, k]


def bad(x, since):
    return [5, x, since]


def good(x):
    return [6, x]


def recall():
    return [7]


def quick():
    return [8]


def witness(k):
    return [9, k]


def of_thing(x, times=1):
    return (0, x, times)


def of_step(k, times=1):
    return (1, k, times)


def flat(rows):
    return [number for row in rows for number in row]


def split_answers(given):
    """The flat list of answers as a list for each call."""
    split = []
    at = 0
    while at < len(given):
        size = given[at]
        split.append(given[at + 1:at + 1 + size])
        if len(split[-1]) != size:
            raise AssertionError("an answer is cut off")
        at += 1 + size
    return split


def ask(calls):
    """The answers to a list of calls, one list each."""
    split = split_answers(answers(flat(calls)))
    if len(split) != len(calls):
        raise AssertionError(f"{len(calls)} calls, {len(split)} answers")
    return split


def last(calls):
    return ask(calls)[-1]


def probe():
    """Calls that together show all that a day of up to eight steps and things holds."""
    calls = [recall(), quick()]
    calls += [value(k) for k in range(9)]
    calls += [witness(k) for k in range(9)]
    calls += [thing(0, 1, 0), step(), step_of_rows(SUM, 0, [0, 0, 1], [])]
    calls += [bad(x, since) for x in range(9) for since in (0, 39)]
    calls += [good(x) for x in range(9)]
    calls += [release(k) for k in range(9)]
    return calls


class AskingCase(unittest.TestCase):
    def check(self, calls, *expected):
        """The last calls of the line are answered as expected."""
        self.assertEqual(ask(calls)[-len(expected):], [list(answer) for answer in expected])

    def check_refused(self, setup, call, refusal):
        """The call is refused with this number alone, and all is as if it had not come."""
        given = ask(setup + [call] + probe())
        self.assertEqual(given[len(setup)], [refusal], call)
        self.assertEqual(given[len(setup) + 1:], ask(setup + probe())[len(setup):], call)

    def check_out_of_range(self, setup, make, least, greatest):
        """make(number) is refused with -1 beyond the range on both sides, and not at its ends."""
        for number in (SMALLEST, least - 1, greatest + 1, LARGEST):
            self.check_refused(setup, make(number), -1)
        for number in (least, greatest):
            self.assertNotEqual(last(setup + [make(number)]), [-1], number)


class Model:
    """The document's words as plainly as can be, for days that only hold well-formed calls."""

    def __init__(self, things, steps, released, bads):
        self.things = things
        self.steps = steps
        self.released = released
        self.bads = bads

    def calls(self):
        calls = [thing(*told) for told in self.things]
        calls += [step(*told) for told in self.steps]
        calls += [release(k) for k in self.released]
        calls += [bad(x, since) for x, since in self.bads.items()]
        return calls

    def play(self, doing):
        numbers = []
        for k, (op, c, terms, guards) in enumerate(self.steps):
            numbers.append(self.come_of(k, op, c, terms, guards, numbers, doing))
        return numbers

    def come_of(self, k, op, c, terms, guards, numbers, doing):
        for j, side, bound in guards:
            if numbers[j] is None or (numbers[j] >= bound) != (side == AT_LEAST):
                return None
        parts = [c]
        for kind, which, times in terms:
            if kind == 1 and numbers[which] is None:
                return None
            does = numbers[which] if kind == 1 else doing.get((k, which), self.things[which][2])
            parts.append(does * times)
        outcome = (sum, max, min)[op](parts)
        return outcome if abs(outcome) <= BILLION else None

    def uses(self):
        found = []
        for k, (op, c, terms, guards) in enumerate(self.steps):
            for kind, x, times in terms:
                if kind == 0 and self.bads.get(x, 40) <= k and (k, x) not in found:
                    found.append((k, x))
        return found

    def histories(self):
        uses = self.uses()
        ranges = [range(self.things[x][0], self.things[x][1] + 1) for k, x in uses]
        return [list(figures) for figures in itertools.product(*ranges)]

    def many(self):
        many = 1
        for k, x in self.uses():
            many *= self.things[x][1] - self.things[x][0] + 1
        return many

    def witness(self, k):
        was = self.play({})[k]
        uses = self.uses()
        for figures in self.histories():
            number = self.play(dict(zip(uses, figures)))[k]
            if number != was:
                return [1] + ([0] if number is None else [1, number]) + figures
        return [0]

    def recall(self):
        found = [k for k in sorted(self.released) if self.witness(k) != [0]]
        return [len(found)] + found

    def hangs(self, k):
        """Walks back from a step to all that it looks at, however far."""
        used = [step_number for step_number, x in self.uses()]
        seen, todo = set(), [k]
        while todo:
            j = todo.pop()
            seen.add(j)
            op, c, terms, guards = self.steps[j]
            todo += [which for kind, which, times in terms if kind == 1 and which not in seen]
            todo += [which for which, side, bound in guards if which not in seen]
        return any(j in used for j in seen)

    def quick(self):
        found = [k for k in sorted(self.released) if self.hangs(k)]
        return [len(found)] + found
