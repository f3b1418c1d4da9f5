"""What each call does to a day and what it answers: a list of numbers, a refusal's number alone."""

from badthings.cutting import smallest_cut
from badthings.day import STEP, THING, Step, Thing, bad_uses, has_step, has_thing
from badthings.hanging import hanging_steps, shortest_rows
from badthings.playing import FURTHEST, Histories, numbers_as_it_was, too_many_histories

NOT_AS_TOLD = -1
NO_ROOM = -2
RELEASED_ALREADY = -3
NOT_SO = -4
TOO_MANY_HISTORIES = -8

MOST_THINGS = 20
MOST_STEPS = 40
MOST_BAD_THINGS = 6
MOST_THREES = 8


def within(number, least, greatest):
    return least <= number <= greatest


def number_told(number):
    return [0] if number is None else [1, number]


def counted(steps):
    return [len(steps)] + steps


def row_is_threes(row):
    return len(row) % 3 == 0 and len(row) <= 3 * MOST_THREES


def threes_of(row):
    return [tuple(row[at:at + 3]) for at in range(0, len(row), 3)]


def threes_counted(threes):
    """How many threes, then they, number by number."""
    told = [len(threes)]
    for three in threes:
        told.extend(list(three))
    return told


def term_is_as_told(day, term):
    if term[0] == THING:
        there = has_thing(day, term[1])
    elif term[0] == STEP:
        there = has_step(day, term[1])
    else:
        there = False
    return there and within(term[2], -100, 100)


def guard_is_as_told(day, guard):
    return has_step(day, guard[0]) and within(guard[1], 0, 1) and within(guard[2], -FURTHEST, FURTHEST)


def terms_are_as_told(day, row):
    return row_is_threes(row) and all([term_is_as_told(day, term) for term in threes_of(row)])


def guards_are_as_told(day, row):
    return row_is_threes(row) and all([guard_is_as_told(day, guard) for guard in threes_of(row)])


def row_is_history(day, row):
    uses = bad_uses(day)
    if len(row) != len(uses):
        return False
    things = [day.things[use.thing] for use in uses]
    return all([within(figure, thing.least, thing.greatest) for figure, thing in zip(row, things)])


def answer_clear(day, call):
    day.begin()
    return [0]


def answer_thing(day, call):
    least = call.arguments[0]
    greatest = call.arguments[1]
    number = call.arguments[2]
    if not within(least, -1000, 1000) or not within(greatest, least, least + 7):
        return [NOT_AS_TOLD]
    if not within(number, least, greatest):
        return [NOT_AS_TOLD]
    if len(day.things) == MOST_THINGS:
        return [NO_ROOM]
    day.things.append(Thing(least, greatest, number))
    return [len(day.things) - 1]


def answer_step(day, call):
    op = call.arguments[0]
    c = call.arguments[1]
    if not within(op, 0, 2) or not within(c, -1000000, 1000000):
        return [NOT_AS_TOLD]
    if not terms_are_as_told(day, call.rows[0]) or not guards_are_as_told(day, call.rows[1]):
        return [NOT_AS_TOLD]
    if len(day.steps) == MOST_STEPS:
        return [NO_ROOM]
    day.steps.append(Step(op, c, threes_of(call.rows[0]), threes_of(call.rows[1])))
    return [len(day.steps) - 1]


def answer_release(day, call):
    k = call.arguments[0]
    if not has_step(day, k):
        return [NOT_AS_TOLD]
    if k in day.released:
        return [RELEASED_ALREADY]
    day.released[k] = True
    return number_told(numbers_as_it_was(day)[k])


def answer_value(day, call):
    k = call.arguments[0]
    if not has_step(day, k):
        return [NOT_AS_TOLD]
    return number_told(numbers_as_it_was(day)[k])


def answer_bad(day, call):
    x = call.arguments[0]
    since = call.arguments[1]
    if not has_thing(day, x) or not within(since, 0, MOST_STEPS - 1):
        return [NOT_AS_TOLD]
    if x not in day.bad_since and len(day.bad_since) == MOST_BAD_THINGS:
        return [NO_ROOM]
    day.bad_since[x] = since
    return [len(bad_uses(day))]


def answer_good(day, call):
    x = call.arguments[0]
    if not has_thing(day, x):
        return [NOT_AS_TOLD]
    if x not in day.bad_since:
        return [NOT_SO]
    day.bad_since.pop(x)
    return [0]


def answer_recall(day, call):
    if too_many_histories(day):
        return [TOO_MANY_HISTORIES]
    was = numbers_as_it_was(day)
    histories = Histories(day)
    recalled = []
    waiting = list(day.released)
    more = True
    while more and len(waiting) > 0:
        recalled.extend([k for k in waiting if histories.numbers[k] != was[k]])
        waiting = [k for k in waiting if histories.numbers[k] == was[k]]
        more = histories.go_on()
    return counted(sorted(recalled))


def answer_quick(day, call):
    hanging = hanging_steps(day)
    return counted([k for k in sorted(day.released) if k in hanging])


def answer_witness(day, call):
    k = call.arguments[0]
    if not has_step(day, k):
        return [NOT_AS_TOLD]
    if too_many_histories(day):
        return [TOO_MANY_HISTORIES]
    was = numbers_as_it_was(day)[k]
    histories = Histories(day)
    more = True
    while more:
        if histories.numbers[k] != was:
            return [1] + number_told(histories.numbers[k]) + histories.figures
        more = histories.go_on()
    return [0]


def answer_spread(day, call):
    k = call.arguments[0]
    if not has_step(day, k):
        return [NOT_AS_TOLD]
    if too_many_histories(day):
        return [TOO_MANY_HISTORIES]
    histories = Histories(day)
    found = [histories.numbers[k]]
    while histories.go_on():
        found.append(histories.numbers[k])
    there = [number for number in found if number is not None]
    lacking = 1 if len(there) < len(found) else 0
    return [lacking, min(there), max(there)] if len(there) > 0 else [lacking]


def answer_why(day, call):
    k = call.arguments[0]
    if not has_step(day, k):
        return [NOT_AS_TOLD]
    return counted(shortest_rows(day).get(k, []))


def answer_cut(day, call):
    return counted(smallest_cut(day))


def answer_again(day, call):
    k = call.arguments[0]
    v = call.arguments[1]
    if not has_step(day, k) or not within(v, -FURTHEST, FURTHEST):
        return [NOT_AS_TOLD]
    day.run_again[k] = v
    return [0]


def answer_as_was(day, call):
    k = call.arguments[0]
    if not has_step(day, k):
        return [NOT_AS_TOLD]
    if k not in day.run_again:
        return [NOT_SO]
    day.run_again.pop(k)
    return [0]


def answer_replay(day, call):
    row = call.rows[0]
    if not row_is_history(day, row):
        return [NOT_AS_TOLD]
    histories = Histories(day)
    histories.go_to(row)
    told = []
    for k in sorted(day.released):
        told.extend(number_told(histories.numbers[k]))
    return told


def answer_uses(day, call):
    uses = bad_uses(day)
    told = [len(uses)]
    for use in uses:
        told.extend([use.step, use.thing])
    return told


def answer_looks(day, call):
    k = call.arguments[0]
    if not has_step(day, k):
        return [NOT_AS_TOLD]
    step = day.steps[k]
    return [step.op, step.c] + threes_counted(step.terms) + threes_counted(step.guards)


def answer_counts(day, call):
    return [len(day.things), len(day.steps), len(day.released), len(day.bad_since), len(day.run_again)]


# By the calls' places.
ANSWERERS = (
    answer_clear,
    answer_thing,
    answer_step,
    answer_release,
    answer_value,
    answer_bad,
    answer_good,
    answer_recall,
    answer_quick,
    answer_witness,
    answer_spread,
    answer_why,
    answer_cut,
    answer_again,
    answer_as_was,
    answer_replay,
    answer_uses,
    answer_looks,
    answer_counts,
)


def answer_call(day, call):
    return ANSWERERS[call.place](day, call)
