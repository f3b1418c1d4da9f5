"""How calls and answers stand in their lists, and what answers() must leave alone."""

import contextlib
import io
import time

from badthings.desk import answers
from tests.helper import (
    AT_LEAST, BELOW, BILLION, LARGEST, NAMES, SMALLEST, AskingCase, again, as_was, ask, bad, clear, counts, cut, flat,
    good, looks, of_step, of_thing, probe, quick, recall, release, replay, spread, step, step_of_rows, thing, uses,
    value, why, witness)

DAY = [
    thing(0, 3, 1), thing(-2, 2, 0),
    step(0, 5, [of_thing(0, 2)]), step(1, 0, [of_thing(1, 3), (1, 0, 1)], [(0, 1, 4)]),
    release(1), release(0), bad(0, 0), bad(1, 1), step(2, 3, [(1, 0, 1)]), again(2, 6),
]
# What each call answers on an empty day.
FIRST = [
    (clear(), [0]), (thing(0, 0, 0), [0]), (step(), [0]), (release(0), [-1]), (value(0), [-1]), (bad(0, 0), [-1]),
    (good(0), [-1]), (recall(), [0]), (quick(), [0]), (witness(0), [-1]), (spread(0), [-1]), (why(0), [-1]),
    (cut(), [0]), (again(0, 0), [-1]), (as_was(0), [-1]), (replay(), []), (uses(), [0]), (looks(0), [-1]),
    (counts(), [0, 0, 0, 0, 0]),
]


class ReadOnlyList(list):
    """A list that can be read in every way and changed in none."""

    def refuse(self, *args, **kwargs):
        raise AssertionError("the list handed in is changed")

    __setitem__ = __delitem__ = __iadd__ = __imul__ = refuse
    append = extend = insert = pop = remove = clear = sort = reverse = refuse


class LayoutTest(AskingCase):
    def test_whole_line_number_by_number(self):
        calls = [
            1, 0, 3, 1,
            1, -2, 2, 0,
            2, 0, 5, 3, 0, 0, 2, 0,
            2, 1, 0, 6, 0, 1, 3, 1, 0, 1, 3, 0, 1, 4,
            4, 0,
            3, 1,
            3, 1,
            5, 0, 0,
            5, 1, 1,
            8,
            7,
            9, 1,
            9, 0,
            6, 1,
            6, 1,
            0,
            4, 0,
        ]
        self.assertEqual(answers(calls), [
            1, 0,
            1, 1,
            1, 0,
            1, 1,
            2, 1, 7,
            2, 1, 7,
            1, -3,
            1, 1,
            1, 2,
            2, 1, 1,
            2, 1, 1,
            5, 1, 1, 5, 0, -2,
            5, 1, 1, 5, 0, -2,
            1, 0,
            1, -4,
            1, 0,
            1, -1,
        ])

    def test_one_call(self):
        self.assertEqual(answers([0]), [1, 0])
        self.assertEqual(answers([7]), [1, 0])
        self.assertEqual(answers([8]), [1, 0])

    def test_whole_line_of_the_other_calls_number_by_number(self):
        calls = [
            15, 0,
            1, 0, 3, 1,
            2, 0, 5, 3, 0, 0, 2, 0,
            2, 1, 0, 3, 1, 0, 1, 3, 0, 1, 6,
            5, 0, 0,
            16,
            17, 1,
            10, 1,
            11, 1,
            12,
            15, 1, 3,
            3, 1,
            12,
            15, 1, 3,
            15, 1, 0,
            15, 1, 4,
            15, 2, 3, 3,
            13, 0, -9,
            15, 0,
            4, 0,
            18,
            14, 0,
            14, 0,
            18,
        ]
        self.assertEqual(answers(calls), [
            0,
            1, 0,
            1, 0,
            1, 1,
            1, 1,
            3, 1, 0, 0,
            10, 1, 0, 1, 1, 0, 1, 1, 0, 1, 6,
            3, 1, 7, 11,
            3, 2, 0, 1,
            1, 0,
            0,
            2, 1, 7,
            2, 1, 0,
            2, 1, 11,
            1, 0,
            1, -1,
            1, -1,
            1, 0,
            1, 0,
            2, 1, -9,
            5, 1, 2, 1, 1, 1,
            1, 0,
            1, -4,
            5, 1, 2, 1, 1, 0,
        ])

    def test_every_call_may_come_first(self):
        self.assertEqual([call[0] for call, answer in FIRST], list(range(len(NAMES))))
        for call, answer in FIRST:
            self.assertEqual(ask([call]), [answer], call)
            self.assertEqual(ask([clear(), call]), [[0], answer], call)
            self.assertEqual(ask(DAY + [clear(), call])[-2:], [[0], answer], call)

    def test_a_row_of_a_history_on_an_empty_day(self):
        self.assertEqual(ask([replay(0), replay(), replay(*[0] * 40)]), [[-1], [], [-1]])

    def test_refused_rows_are_read_to_their_end(self):
        row = [SMALLEST, 9, LARGEST, 0] * 10
        calls = [step_of_rows(0, 0, row, row), thing(4, 5, 4), step_of_rows(0, 0, [], row), quick(),
                 step_of_rows(0, 0, row, []), thing(4, 5, 4)]
        self.assertEqual(ask(calls), [[-1], [0], [-1], [0], [-1], [1]])
        self.assertEqual(ask([replay(*row), thing(4, 5, 4), replay(*row[:39]), counts()]),
                         [[-1], [0], [-1], [1, 0, 0, 0, 0]])

    def test_answer_is_a_list_of_whole_numbers(self):
        given = answers(flat(DAY + probe()))
        self.assertIs(type(given), list)
        self.assertEqual({type(number) for number in given}, {int})

    def test_clear_brings_back_the_beginning(self):
        given = ask(DAY + [clear()] + probe())
        self.assertEqual(given[len(DAY)], [0])
        self.assertEqual(given[len(DAY) + 1:], ask(probe()))
        self.assertEqual(ask(DAY + [clear()] + DAY)[len(DAY) + 1:], ask(DAY))

    def test_clear_at_the_most_of_everything(self):
        full = [thing(0, 0, 0)] * 20 + [step()] * 40 + [release(k) for k in range(40)] + [bad(x, 0) for x in range(6)]
        full += [again(k, 0) for k in range(40)] + [counts()]
        given = ask(full + [clear()] + full)
        self.assertEqual(given[len(full) + 1:], given[:len(full)])
        self.assertEqual(given[:60], [[x] for x in range(20)] + [[k] for k in range(40)])
        self.assertEqual(given[60:len(full)], [[1, 0]] * 40 + [[0]] * 6 + [[0]] * 40 + [[20, 40, 40, 6, 40]])


class LeftAloneTest(AskingCase):
    def test_what_is_handed_in_stays_the_same(self):
        calls = flat(DAY + probe())
        before = list(calls)
        answers(calls)
        self.assertEqual(calls, before)

    def test_what_is_handed_in_is_not_changed_for_a_while(self):
        calls = flat(DAY + probe())
        self.assertEqual(answers(ReadOnlyList(calls)), answers(calls))

    def test_nothing_is_kept(self):
        first = answers(flat(DAY + probe()))
        self.assertEqual(answers(flat(DAY + probe())), first)
        self.assertEqual(ask(probe())[:3], [[0, 0, 0, 0, 0], [0], [0]])
        self.assertEqual(answers([4, 0]), [1, -1])
        self.assertEqual(answers(flat(DAY + probe())), first)

    def test_what_is_given_back_is_the_callers(self):
        calls = flat(DAY + probe())
        first = answers(calls)
        copy = list(first)
        first.clear()
        self.assertEqual(answers(calls), copy)

    def test_nothing_is_printed(self):
        out, err = io.StringIO(), io.StringIO()
        with contextlib.redirect_stdout(out), contextlib.redirect_stderr(err):
            answers(flat(DAY + probe()))
        self.assertEqual((out.getvalue(), err.getvalue()), ("", ""))


def full_steps():
    """40 steps with 8 terms and 8 guards: each hangs on the five bad things of the first, that make 1024 histories."""
    first = step(0, 0, [of_thing(x, times) for x, times in enumerate((1, 4, 16, 64, 100))])
    calls = [thing(0, 3, 1)] * 5 + [first]
    for k in range(1, 40):
        ahead = [max(0, k - 1 - place) for place in range(8)]
        terms = [of_step(j, (-1) ** place) for place, j in enumerate(ahead)]
        calls.append(step(k % 3, k, terms, [(j, AT_LEAST, -BILLION) for j in ahead]))
    return calls + [bad(x, 0) for x in range(5)]


class LongTest(AskingCase):
    def test_three_hundred_calls(self):
        self.assertEqual(ask([step(0, 7)] + [value(0)] * 299), [[0]] + [[1, 7]] * 299)

    def test_sixteen_thousand_numbers(self):
        row = [0] * 40
        calls = [step_of_rows(0, 0, row, row)] * 187 + [thing(0, 0, 0)] * 10
        self.assertLessEqual(len(flat(calls)), 16000)
        self.assertGreater(len(flat(calls)), 15900)
        self.assertEqual(ask(calls), [[-1]] * 187 + [[x] for x in range(10)])

    def test_the_longest_histories(self):
        # Forty bad uses, and each may do one number only.
        calls = [thing(2, 2, 2)] + [step(0, 0, [of_thing(0)])] * 40 + [release(39), bad(0, 0)]
        calls += [replay(*[2] * 40)] * 256 + [counts()]
        self.assertEqual(ask(calls)[-257:], [[1, 2]] * 256 + [[1, 40, 1, 1, 0]])

    def test_forty_steps_one_upon_another(self):
        calls = [thing(0, 1, 0), step(0, 1, [of_thing(0)])]
        calls += [step(0, 1, [(1, k, 1)]) for k in range(39)]
        calls += [release(39), bad(0, 0), quick(), recall(), witness(39), spread(39), why(39), cut()]
        self.check(calls, [1, 40], [1], [1, 39], [1, 39], [1, 1, 41, 1], [0, 40, 41], [40] + list(range(40)), [1, 0])

    def test_the_most_that_hangs_on_what_is_bad(self):
        calls = [thing(x, x, x) for x in range(6)]
        calls += [step(0, 0, [of_thing(x) for x in range(6)])] * 40
        calls += [release(k) for k in range(40)] + [bad(x, 0) for x in range(6)]
        self.check(calls + [uses(), cut(), quick(), spread(39), replay(*[0] * 40)],
                   [240] + [number for k in range(40) for x in range(6) for number in (k, x)],
                   [40] + list(range(40)), [40] + list(range(40)), [0, 15, 15], [-1])

    def check_in_time(self, calls):
        """A line of 300 calls, 60 of them with all that can be played, is answered within a minute."""
        self.assertEqual((len(calls), sum(call[0] in (7, 9, 10, 12) for call in calls)), (300, 60))
        self.assertLessEqual(len(flat(calls)), 16000)
        begin = time.monotonic()
        given = ask(calls)
        self.assertLess(time.monotonic() - begin, 60)
        return given

    def test_a_longest_line_of_spreads(self):
        calls = full_steps() + [release(k) for k in range(40)] + [spread(39)] * 60
        given = self.check_in_time(calls + [why(39)] * (300 - len(calls)))
        self.assertEqual(given[90:150], given[90:91] * 60)
        self.assertEqual(len(given[90]), 3)
        self.assertEqual(given[150], [6, 0, 7, 15, 23, 31, 39])

    def test_a_longest_line_in_which_nothing_is_otherwise(self):
        calls = full_steps()
        calls[44] = step(1, 1000000, [of_step(k) for k in range(31, 39)], [(k, BELOW, BILLION) for k in range(31, 39)])
        calls += [release(39)] + [recall(), witness(39), spread(39)] * 20
        given = self.check_in_time(calls + [quick()] * (300 - len(calls)))
        self.assertEqual(given[51:], [[0], [0], [0, 1000000, 1000000]] * 20 + [[1, 39]] * 189)

    def test_a_longest_line_of_cuts(self):
        calls = full_steps() + [release(k) for k in range(40)] + [cut()] * 60
        given = self.check_in_time(calls + [uses()] * (300 - len(calls)))
        self.assertEqual(given[90:], [[1, 0]] * 60 + [[5, 0, 0, 0, 1, 0, 2, 0, 3, 0, 4]] * 150)
