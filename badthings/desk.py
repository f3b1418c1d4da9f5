"""The desk: takes the calls on one new day and gives back their answers."""

from badthings.answering import answer_call
from badthings.day import Day
from badthings.reading import read_calls


def answers(calls):
    """For each call, in order, how many numbers are answered, and these."""
    day = Day()
    given = []
    for call in read_calls(calls):
        answer = answer_call(day, call)
        given.append(len(answer))
        given.extend(answer)
    return given
