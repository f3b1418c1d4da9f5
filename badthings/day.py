"""What was told of a day: its things, steps, released steps, bad things and steps that were run again."""

THING = 0
STEP = 1


class Thing:
    def __init__(self, least, greatest, number):
        self.least = least
        self.greatest = greatest
        self.number = number


class Step:
    """terms: (THING or STEP, its number, times); guards: (step, 1 at least or 0 below, bound)."""

    def __init__(self, op, c, terms, guards):
        self.op = op
        self.c = c
        self.terms = terms
        self.guards = guards


class Use:
    """A step's number and the number of a thing that stands in its terms."""

    def __init__(self, step, thing):
        self.step = step
        self.thing = thing


class Day:
    """bad_since: for each bad thing the step since which it is; run_again: for each such step what came of it."""

    def __init__(self):
        self.begin()

    def begin(self):
        self.things = []
        self.steps = []
        self.released = {}
        self.bad_since = {}
        self.run_again = {}


def has_thing(day, x):
    return 0 <= x < len(day.things)


def has_step(day, k):
    return 0 <= k < len(day.steps)


def things_in_terms(step):
    """Each thing once, in the order in which they first stand there."""
    found = {}
    for term in step.terms:
        if term[0] == THING:
            found[term[1]] = True
    return list(found)


def use_is_bad(day, k, x):
    return x in day.bad_since and day.bad_since[x] <= k and k not in day.run_again


def bad_uses(day):
    uses = []
    for k, step in enumerate(day.steps):
        uses.extend([Use(k, x) for x in things_in_terms(step) if use_is_bad(day, k, x)])
    return uses


def steps_looked_at(step):
    looked = [term[1] for term in step.terms if term[0] == STEP]
    looked.extend([guard[0] for guard in step.guards])
    return looked
