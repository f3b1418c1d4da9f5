"""How calls and answers stand in their lists, and what answers() must leave alone."""

import contextlib
import io

from badthings.desk import answers
from tests.helper import (
    LARGEST, SMALLEST, AskingCase, ask, bad, clear, flat, of_thing, probe, quick, recall, release, step, step_of_rows,
    thing, value, witness)

DAY = [
    thing(0, 3, 1), thing(-2, 2, 0),
    step(0, 5, [of_thing(0, 2)]), step(1, 0, [of_thing(1, 3), (1, 0, 1)], [(0, 1, 4)]),
    release(1), release(0), bad(0, 0), bad(1, 1),
]


class ReadOnlyList(list):
    """A list that can be read in every way and changed in none."""

    def refuse(self, *args, **kwargs):
        raise AssertionError("the list handed in is changed")

    __setitem__ = __delitem__ = __iadd__ = __imul__ = refuse
    append = extend = insert = pop = remove = clear = sort = reverse = refuse


class LayoutTest(AskingCase):
    def test_whole_line_number_by_number(self):
        calls = [
            1, 0, 3, 1,
            1, -2, 2, 0,
            2, 0, 5, 3, 0, 0, 2, 0,
            2, 1, 0, 6, 0, 1, 3, 1, 0, 1, 3, 0, 1, 4,
            4, 0,
            3, 1,
            3, 1,
            5, 0, 0,
            5, 1, 1,
            8,
            7,
            9, 1,
            9, 0,
            6, 1,
            6, 1,
            0,
            4, 0,
        ]
        self.assertEqual(answers(calls), [
            1, 0,
            1, 1,
            1, 0,
            1, 1,
            2, 1, 7,
            2, 1, 7,
            1, -3,
            1, 1,
            1, 2,
            2, 1, 1,
            2, 1, 1,
            5, 1, 1, 5, 0, -2,
            5, 1, 1, 5, 0, -2,
            1, 0,
            1, -4,
            1, 0,
            1, -1,
        ])

    def test_one_call(self):
        self.assertEqual(answers([0]), [1, 0])
        self.assertEqual(answers([7]), [1, 0])
        self.assertEqual(answers([8]), [1, 0])

    def test_every_call_may_come_first(self):
        self.assertEqual(ask([clear()]), [[0]])
        self.assertEqual(ask([thing(0, 0, 0)]), [[0]])
        self.assertEqual(ask([step()]), [[0]])
        self.assertEqual(ask([recall()]), [[0]])
        self.assertEqual(ask([quick()]), [[0]])
        for call in (release(0), value(0), bad(0, 0), [6, 0], witness(0)):
            self.assertEqual(ask([call]), [[-1]])

    def test_refused_rows_are_read_to_their_end(self):
        row = [SMALLEST, 9, LARGEST, 0] * 10
        calls = [step_of_rows(0, 0, row, row), thing(4, 5, 4), step_of_rows(0, 0, [], row), quick(),
                 step_of_rows(0, 0, row, []), thing(4, 5, 4)]
        self.assertEqual(ask(calls), [[-1], [0], [-1], [0], [-1], [1]])

    def test_answer_is_a_list_of_whole_numbers(self):
        given = answers(flat(DAY + probe()))
        self.assertIs(type(given), list)
        self.assertEqual({type(number) for number in given}, {int})

    def test_clear_brings_back_the_beginning(self):
        given = ask(DAY + [clear()] + probe())
        self.assertEqual(given[len(DAY)], [0])
        self.assertEqual(given[len(DAY) + 1:], ask(probe()))
        self.assertEqual(ask(DAY + [clear()] + DAY)[len(DAY) + 1:], ask(DAY))

    def test_clear_at_the_most_of_everything(self):
        full = [thing(0, 0, 0)] * 20 + [step()] * 40 + [release(k) for k in range(40)] + [bad(x, 0) for x in range(6)]
        given = ask(full + [clear()] + full)
        self.assertEqual(given[len(full) + 1:], given[:len(full)])
        self.assertEqual(given[:60], [[x] for x in range(20)] + [[k] for k in range(40)])
        self.assertEqual(given[60:len(full)], [[1, 0]] * 40 + [[0]] * 6)


class LeftAloneTest(AskingCase):
    def test_what_is_handed_in_stays_the_same(self):
        calls = flat(DAY + probe())
        before = list(calls)
        answers(calls)
        self.assertEqual(calls, before)

    def test_what_is_handed_in_is_not_changed_for_a_while(self):
        calls = flat(DAY + probe())
        self.assertEqual(answers(ReadOnlyList(calls)), answers(calls))

    def test_nothing_is_kept(self):
        first = answers(flat(DAY + probe()))
        self.assertEqual(answers(flat(DAY + probe())), first)
        self.assertEqual(ask(probe())[:2], [[0], [0]])
        self.assertEqual(answers([4, 0]), [1, -1])
        self.assertEqual(answers(flat(DAY + probe())), first)

    def test_what_is_given_back_is_the_callers(self):
        calls = flat(DAY + probe())
        first = answers(calls)
        copy = list(first)
        first.clear()
        self.assertEqual(answers(calls), copy)

    def test_nothing_is_printed(self):
        out, err = io.StringIO(), io.StringIO()
        with contextlib.redirect_stdout(out), contextlib.redirect_stderr(err):
            answers(flat(DAY + probe()))
        self.assertEqual((out.getvalue(), err.getvalue()), ("", ""))


class LongTest(AskingCase):
    def test_three_hundred_calls(self):
        self.assertEqual(ask([step(0, 7)] + [value(0)] * 299), [[0]] + [[1, 7]] * 299)

    def test_sixteen_thousand_numbers(self):
        row = [0] * 40
        calls = [step_of_rows(0, 0, row, row)] * 187 + [thing(0, 0, 0)] * 10
        self.assertLessEqual(len(flat(calls)), 16000)
        self.assertGreater(len(flat(calls)), 15900)
        self.assertEqual(ask(calls), [[-1]] * 187 + [[x] for x in range(10)])

    def test_forty_steps_one_upon_another(self):
        calls = [thing(0, 1, 0), step(0, 1, [of_thing(0)])]
        calls += [step(0, 1, [(1, k, 1)]) for k in range(39)]
        calls += [release(39), bad(0, 0), quick(), recall(), witness(39)]
        self.check(calls, [1, 40], [1], [1, 39], [1, 39], [1, 1, 41, 1])
