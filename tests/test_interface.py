"""gatehouse.nominations.answers: its argument, and what it gives back."""

import contextlib
import io
import unittest

import gatehouse.nominations
from gatehouse.nominations import answers
from tests.helper import (
    BILLION, QUESTIONS, calm, clear, deliver, double, flying, line, lose, now, open_, run, send, tick, total, unmatched,
    write,
)


class Unchangeable(list):
    """A list that tells when somebody changes it, if only for a while."""

    def refuse(self, *anything, **more):
        raise AssertionError("the list that was handed in is being changed")

    append = extend = insert = remove = pop = clear = sort = reverse = refuse
    __setitem__ = __delitem__ = __iadd__ = __imul__ = refuse


EVERY_CALL = [
    open_(3, 2, 2), write(1, 2, 1, 5), write(2, 1, 1, -7), write(1, 3, 2, 4), clear(3), send(1), send(2), tick(),
    deliver(1), lose(1), double(1), flying(), calm(2), flying(), *QUESTIONS, calm(1), *QUESTIONS, deliver(40),
    deliver(41),
]


class Interface(unittest.TestCase):
    def test_is_reached_by_its_full_name(self):
        self.assertEqual(gatehouse.nominations.answers([4]), [1, -2])

    def test_line_of_one_call(self):
        self.assertEqual(answers([0, 2, 1, 1]), [1, 0])
        self.assertEqual(answers([0, 1, 1, 1]), [1, -1])
        self.assertEqual(answers([1, 1, 2, 1, 5]), [1, -2])
        for call in ([9, 1], [10, 1], [11, 1], [12, 1], [13, 1], [14, 1], [15], [16], [17], [18, 1]):
            self.assertEqual(answers(call), [1, -2])
        for call in ([9, 0], [10, 5], [11, 0], [12, 5], [13, -1], [14, 10 ** 18], [18, 4], [18, -10 ** 18]):
            self.assertEqual(answers(call), [1, -1])

    def test_each_answer_of_a_question_has_its_count_before_it(self):
        calls = [0, 2, 2, 1, 1, 1, 2, 2, 5, 1, 1, 2, 1, 3, 3, 1, 15, 5, 1, 16, 10, 1, 10, 2, 11, 1, 11, 2, 12, 1, 13, 1,
                 14, 1, 18, 1, 18, 3, 17, 4, 17, 13, 1, 14, 3, 5, 2, 14, 1, 15]
        expected = [
            1, 0,
            1, 0,
            1, 0,
            2, 0, 1,
            5, 0, 1, 1, 1, 2,
            5, 0, 1, 1, 1, 2,
            11, 0, 1, 2, 1, 3, 0, 1, 2, 2, 5, 0,
            3, 0, 1, 0,
            3, 0, 0, 0,
            7, 0, 2, 1, 3, 2, 2, 5,
            1, 0,
            7, 0, 2, 1, 3, 2, 2, 5,
            1, -8,
            1, -8,
            3, 0, 0, 0,
            1, -4,
            3, 0, 0, 0,
            4, 0, 1, 1, 4,
            3, 0, 1, 1,
            1, 0,
            1, -3,
            5, 0, 1, 1, 1, 2,
            1, -8,
            17, 0, 2, 1, 1, 0, 4, 1, 0, 0, 4, 2, 0, 0, 2, 1, 1, 0,
        ]
        self.assertEqual(answers(calls), expected)

    def test_each_answer_has_its_count_before_it(self):
        calls = [0, 2, 1, 3, 1, 1, 2, 1, 5, 2, 2, 3, 1, 4, 5, 1, 6, 1, 7, 1, 8, 1, 9, 1, 9, 3]
        expected = [
            1, 0,
            1, 0,
            1, 0,
            2, 0, 1,
            4, 0, 1, 0, 2,
            5, 0, 1, 1, 1, 1,
            1, 0,
            1, 0,
            4, 0, 2, 0, 0,
            6, 0, 1, 1, 0, 0, 0,
            1, -3,
        ]
        self.assertEqual(answers(calls), expected)

    def test_refused_call_answers_its_number_alone(self):
        self.assertEqual(answers([8, 0, 8, 1, 0, 2, 1, 1, 5, 1]), [1, -1, 1, -2, 1, 0, 1, -6])

    def test_line_of_400_calls(self):
        calls = [open_(2, 1, 100)] + [tick()] * 399
        given = run(*calls)
        self.assertEqual(len(given), 400)
        self.assertEqual(given[0], [0])
        for time in range(1, 400):
            closed = 1 if time >= 100 else 0
            under_way = min(40, 2 * (time - 99)) if closed else 0
            self.assertEqual(given[time], [0, time, closed, under_way])

    def test_line_of_400_calls_of_the_widest_kind(self):
        calls = [open_(4, 3, 9)] + [write(1, 2, 3, place) for place in range(398)] + [send(1)]
        given = answers(line(calls))
        self.assertEqual(given, [1, 0] * 399 + [2, 0, 1])

    def test_line_of_400_calls_with_the_longest_answers(self):
        # 40 messages in the net, and nobody agrees with anybody on anything.
        writes = [write(one, other, quarter, BILLION) for one in (1, 2, 3, 4) for other in (1, 2, 3, 4)
                  for quarter in (1, 2, 3) if one != other]
        calls = [open_(4, 3, 100)] + writes + [send(number) for number in (1, 2, 3, 4)] + [deliver(1)] * 8
        calls += [send(1)] + [double(1)] * 39
        calls += [flying(), unmatched()] * ((400 - len(calls)) // 2)
        calls += [now()] * (400 - len(calls))
        given = run(*calls)
        self.assertEqual(len(given), 400)
        shown = [0] + [1, 1, 2, 9] * 40
        disagreed = [0]
        for one, other in ((1, 2), (1, 3), (1, 4), (2, 3), (2, 4), (3, 4)):
            for quarter in (1, 2, 3):
                disagreed += [one, other, quarter, BILLION, BILLION]
        self.assertEqual((len(shown), len(disagreed)), (161, 91))
        self.assertEqual([answer for answer in given if len(answer) == 161][-1], shown)
        self.assertEqual([answer for answer in given if len(answer) == 91][-1], disagreed)
        self.assertLess(len(answers(line(calls))), 10 ** 6)

    def test_line_of_400_questions(self):
        calls = [open_(4, 3, 1)] + (QUESTIONS * 14)[:399]
        self.assertEqual(len(run(*calls)), 400)
        for start in (1, 1 + len(QUESTIONS)):
            self.assertEqual(run(*calls)[start:start + len(QUESTIONS)],
                             [[0, 0, 0, 0, 0, 0]] * 4 + [[0, 0, 0]] * 4 + [[0]] * 8 + [[-8]] * 8
                             + [[0], [0], [0, 0, 0]] + [[0, 0, 0, 0, 0]] * 3)

    def test_line_of_400_open_calls_and_of_400_refusals(self):
        self.assertEqual(answers([0, 4, 3, 100] * 400), [1, 0] * 400)
        self.assertEqual(answers([4] * 400), [1, -2] * 400)
        self.assertEqual(answers([18, 0] * 400), [1, -1] * 400)

    def test_line_of_400_calms_of_the_longest_kind(self):
        given = run(open_(4, 3, 100), *[calm(5)] * 399)
        self.assertEqual(given[-1], [0, 1995, 1, 0])

    def test_what_is_handed_in_is_not_changed(self):
        calls = Unchangeable(line(EVERY_CALL))
        before = list(calls)
        answers(calls)
        self.assertEqual(list(calls), before)

    def test_what_is_given_back_is_a_new_list(self):
        calls = line(EVERY_CALL)
        first = answers(calls)
        self.assertIs(type(first), list)
        kept = list(first)
        first.clear()
        self.assertEqual(answers(calls), kept)

    def test_same_answers_twice_in_a_row(self):
        calls = line(EVERY_CALL)
        self.assertEqual(answers(calls), answers(calls))

    def test_nothing_is_kept_from_one_time_to_the_next(self):
        answers([0, 4, 3, 1, 1, 1, 2, 1, 5, 3, 1, 4, 8, 2])
        self.assertEqual(answers([4]), [1, -2])
        self.assertEqual(answers([9, 1]), [1, -2])
        self.assertEqual(answers([0, 4, 3, 1, 9, 1, 5, 1]), [1, 0, 6, 0, 0, 0, 0, 0, 0, 1, -6])
        asked = line([open_(4, 3, 1)] + QUESTIONS)
        first = answers(asked)
        answers(line(EVERY_CALL))
        self.assertEqual(answers(asked), first)
        self.assertEqual(answers(line([open_(2, 1, 1), total(1), now()])), [1, 0, 3, 0, 0, 0, 3, 0, 0, 0])

    def test_answers_are_whole_numbers_and_never_truths(self):
        for number in answers(line(EVERY_CALL)):
            self.assertIs(type(number), int)

    def test_prints_nothing(self):
        out = io.StringIO()
        err = io.StringIO()
        with contextlib.redirect_stdout(out), contextlib.redirect_stderr(err):
            answers(line(EVERY_CALL))
        self.assertEqual((out.getvalue(), err.getvalue()), ("", ""))


if __name__ == "__main__":
    unittest.main()
