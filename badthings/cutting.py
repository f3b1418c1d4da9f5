"""The smallest cut: the fewest steps to run again so that nothing released hangs on what is bad.

Each hanging step is a pipe with a near end and a far end through which one unit flows; from the far end of a step
all may flow to the near ends of the steps that look at it. As much as can flow from what is bad to what is released
is as many steps as the smallest cut has, and the pipes that bound what then can still be filled are the nearest one.
"""

from badthings.day import steps_looked_at
from badthings.hanging import hanging_steps, steps_with_bad_uses

SOURCE = -1
DRAIN = -2
# More than can ever flow: no more than one unit through each of at most 40 steps.
PLENTY = 1000


def near_end(k):
    return 2 * k


def far_end(k):
    return 2 * k + 1


class Pipes:
    """room: how much more may flow from one end to another; beside: the ends next to an end."""

    def __init__(self):
        self.room = {}
        self.beside = {SOURCE: [], DRAIN: []}

    def lay(self, start, end, room):
        # A step may look at another one several times.
        if (start, end) in self.room:
            return
        self.room[(start, end)] = room
        self.room[(end, start)] = 0
        self.beside.setdefault(start, []).append(end)
        self.beside.setdefault(end, []).append(start)

    def reach(self):
        """The ends to which more may flow from the source, each with the end from which it gets there."""
        came_from = {SOURCE: SOURCE}
        waiting = [SOURCE]
        while len(waiting) > 0:
            start = waiting.pop()
            for end in self.beside[start]:
                if end not in came_from and self.room[(start, end)] > 0:
                    came_from[end] = start
                    waiting.append(end)
        return came_from

    def pour(self, came_from):
        """One unit more flows to the drain."""
        end = DRAIN
        while end != SOURCE:
            start = came_from[end]
            self.room[(start, end)] -= 1
            self.room[(end, start)] += 1
            end = start


def pipes_of(day):
    pipes = Pipes()
    hanging = hanging_steps(day)
    for k in hanging:
        pipes.lay(near_end(k), far_end(k), 1)
        for j in steps_looked_at(day.steps[k]):
            if j in hanging:
                pipes.lay(far_end(j), near_end(k), PLENTY)
        if k in day.released:
            pipes.lay(far_end(k), DRAIN, PLENTY)
    for k in steps_with_bad_uses(day):
        pipes.lay(SOURCE, near_end(k), PLENTY)
    return pipes


def smallest_cut(day):
    """The steps, rising, of the smallest cut that is nearest to what is bad."""
    pipes = pipes_of(day)
    reached = pipes.reach()
    while DRAIN in reached:
        pipes.pour(reached)
        reached = pipes.reach()
    return [k for k in range(len(day.steps)) if near_end(k) in reached and far_end(k) not in reached]
