"""Playing a day: as it was, and in every history."""

from badthings.day import THING, bad_uses
from badthings.hanging import hanging_steps

SUM = 0
GREATEST = 1
FURTHEST = 1000000000
MOST_HISTORIES = 1024


def guards_allow(step, numbers):
    for k, at_least, bound in step.guards:
        number = numbers[k]
        if number is None:
            return False
        if at_least == 1 and number < bound:
            return False
        if at_least == 0 and number >= bound:
            return False
    return True


def put_together(op, parts):
    if op == SUM:
        return sum(parts)
    if op == GREATEST:
        return max(parts)
    return min(parts)


def number_of_step(step, numbers, doing):
    """What comes of a step, or None: numbers are the earlier steps', doing the things' in this step."""
    if not guards_allow(step, numbers):
        return None
    parts = [step.c]
    for kind, which, times in step.terms:
        number = doing[which] if kind == THING else numbers[which]
        if number is None:
            return None
        parts.append(number * times)
    outcome = put_together(step.op, parts)
    if outcome < -FURTHEST or outcome > FURTHEST:
        return None
    return outcome


def numbers_as_it_was(day):
    doing = [thing.number for thing in day.things]
    numbers = []
    for k, step in enumerate(day.steps):
        if k in day.run_again:
            numbers.append(day.run_again[k])
        else:
            numbers.append(number_of_step(step, numbers, doing))
    return numbers


def too_many_histories(day):
    many = 1
    for use in bad_uses(day):
        thing = day.things[use.thing]
        many *= thing.greatest - thing.least + 1
        # With many uses the whole product would grow without need.
        if many > MOST_HISTORIES:
            return True
    return False


class Histories:
    """Stands at one history after another: figures is the history, numbers are the steps' in it."""

    def __init__(self, day):
        self.day = day
        self.uses = bad_uses(day)
        # All other steps, those run again among them, have the numbers of the day as it was in every history.
        self.hanging = list(hanging_steps(day))
        self.numbers = numbers_as_it_was(day)
        doing = [thing.number for thing in day.things]
        self.doings = [list(doing) for k in range(len(day.steps))]
        self.figures = [0] * len(self.uses)
        self.go_to([day.things[use.thing].least for use in self.uses])

    def go_to(self, figures):
        for place, figure in enumerate(figures):
            self.put_figure(place, figure)
        self.play_from(0)

    def put_figure(self, place, figure):
        use = self.uses[place]
        self.figures[place] = figure
        self.doings[use.step][use.thing] = figure

    def play_from(self, first):
        for k in self.hanging:
            if k >= first:
                self.numbers[k] = number_of_step(self.day.steps[k], self.numbers, self.doings[k])

    def go_on(self):
        """Goes to the next history in the order; False if there is none."""
        place = len(self.uses) - 1
        while place >= 0:
            thing = self.day.things[self.uses[place].thing]
            if self.figures[place] < thing.greatest:
                self.put_figure(place, self.figures[place] + 1)
                # The uses are in order of their steps, so no earlier step is touched.
                self.play_from(self.uses[place].step)
                return True
            self.put_figure(place, thing.least)
            place -= 1
        return False
