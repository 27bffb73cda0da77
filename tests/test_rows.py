"""draft, held, final and belief: the calls that answer the rows of a sheet."""

import itertools
import random
import unittest

from tests.helper import (
    BILLION, after, arrived, belief, calm, clear, deliver, double, draft, final, held, last, lose, open_, opened,
    send, tick, write,
)

NOT_YET = [-8]


def rows_of(writes):
    """What is to be answered where these rows (other party, quarter, amount) stand in a sheet."""
    return [0] + [number for row in sorted(writes) for number in row]


def written(number, rows):
    return [write(number, *row) for row in rows]


def all_rows(number):
    """A row for each other party and quarter, no two amounts alike, the greatest ones first."""
    keys = [(other, quarter) for other in (1, 2, 3, 4) if other != number for quarter in (1, 2, 3)]
    return [(other, quarter, 1000 - 100 * other - 10 * quarter) for other, quarter in keys]


def orders(number):
    """Nine rows in several orders: the right one, turned round, by quarter, shuffled."""
    rows = all_rows(number)
    yield rows
    yield rows[::-1]
    yield sorted(rows, key=lambda row: (row[1], row[0]))
    for seed in range(6):
        yield random.Random(seed).sample(rows, 9)


def turned(number, rows):
    """Writes of the other parties after which all these rows of a party are matched in full."""
    return [write(other, number, quarter, -amount) for other, quarter, amount in rows]


def closed(*writes, parties=4, quarters=3):
    """The house holds what was written; the gate's own tick has just been."""
    return arrived(*writes, parties=parties, quarters=quarters, gate=1) + [tick()]


class Draft(unittest.TestCase):
    def test_no_rows(self):
        self.assertEqual(after(opened(), *[draft(number) for number in (1, 2, 3, 4)]), [[0]] * 4)

    def test_one_row(self):
        self.assertEqual(last(*opened(), write(1, 2, 3, 5), draft(1)), [0, 2, 3, 5])
        self.assertEqual(last(*opened(), write(4, 1, 2, -5), draft(4)), [0, 1, 2, -5])

    def test_by_the_other_party_and_then_by_quarter_in_whatever_order_they_were_written(self):
        for number in (1, 2, 3, 4):
            for rows in orders(number):
                with self.subTest(number=number, rows=rows):
                    self.assertEqual(last(*opened(), *written(number, rows), draft(number)), rows_of(rows))

    def test_every_order_of_four_rows(self):
        rows = [(1, 2, 4), (1, 3, 3), (3, 1, 2), (3, 3, 1)]
        for order in itertools.permutations(rows):
            with self.subTest(order=order):
                self.assertEqual(last(*opened(), *written(2, order), draft(2)), [0, 1, 2, 4, 1, 3, 3, 3, 1, 2, 3, 3, 1])

    def test_an_amount_that_was_written_over(self):
        calls = opened() + written(1, [(2, 1, 5), (2, 2, 6), (3, 1, 7), (2, 1, -8)])
        self.assertEqual(last(*calls, draft(1)), [0, 2, 1, -8, 2, 2, 6, 3, 1, 7])

    def test_an_amount_that_was_written_over_with_0(self):
        calls = opened() + written(1, [(2, 1, 5), (2, 2, 6), (3, 1, 7)])
        self.assertEqual(after(calls, write(1, 2, 2, 0), draft(1), write(1, 2, 1, 0), draft(1), write(1, 3, 1, 0),
                               draft(1)),
                         [[0], [0, 2, 1, 5, 3, 1, 7], [0], [0, 3, 1, 7], [0], [0]])

    def test_0_where_nothing_was_said(self):
        self.assertEqual(after(opened(), write(1, 2, 1, 0), draft(1)), [[0], [0]])

    def test_a_row_that_comes_back_has_its_place_again(self):
        calls = opened() + written(1, [(2, 1, 5), (3, 1, 7), (2, 1, 0), (2, 1, 9)])
        self.assertEqual(last(*calls, draft(1)), [0, 2, 1, 9, 3, 1, 7])

    def test_greatest_and_least_amounts(self):
        calls = opened() + written(1, [(2, 1, BILLION), (2, 2, -BILLION), (3, 1, 1), (3, 2, -1)])
        self.assertEqual(last(*calls, draft(1)), [0, 2, 1, BILLION, 2, 2, -BILLION, 3, 1, 1, 3, 2, -1])

    def test_a_refused_amount_changes_no_row(self):
        for amount in (BILLION + 1, -BILLION - 1):
            self.assertEqual(after(opened() + [write(1, 2, 1, 5)], write(1, 2, 1, amount), draft(1)),
                             [[-1], [0, 2, 1, 5]])

    def test_each_party_has_its_own(self):
        calls = opened() + [write(1, 2, 1, 5), write(2, 1, 1, 6), write(2, 4, 3, 7)]
        self.assertEqual(after(calls, *[draft(number) for number in (1, 2, 3, 4)]),
                         [[0, 2, 1, 5], [0, 1, 1, 6, 4, 3, 7], [0], [0]])

    def test_clear_leaves_no_rows_of_that_party(self):
        calls = opened() + [write(1, 2, 1, 5), write(1, 3, 1, 5), write(2, 1, 1, 6)]
        self.assertEqual(after(calls, clear(1), draft(1), draft(2), write(1, 4, 1, 7), draft(1)),
                         [[0], [0], [0, 1, 1, 6], [0], [0, 4, 1, 7]])

    def test_the_draft_stays_when_it_is_sent(self):
        calls = opened() + [write(1, 2, 1, 5), send(1)]
        self.assertEqual(after(calls, draft(1), deliver(1), deliver(1), draft(1)),
                         [[0, 2, 1, 5], [0, 1, 1, 1, 1], [0, 2, 1, 1, 0], [0, 2, 1, 5]])

    def test_no_message_and_no_tick_changes_it(self):
        calls = closed((1, 2, 1, 5), (2, 1, 1, -3)) + [write(1, 2, 1, 8), calm(3)]
        self.assertEqual(after(calls, draft(1), draft(2)), [[0, 2, 1, 8], [0, 1, 1, -3]])

    def test_open_begins_with_no_rows(self):
        self.assertEqual(last(*opened(), write(1, 2, 1, 5), open_(2, 1, 1), draft(1)), [0])

    def test_what_has_the_numbers_of_the_smallest_market(self):
        self.assertEqual(after(opened(2, 1) + [write(1, 2, 1, 5), write(2, 1, 1, 6)], draft(1), draft(2)),
                         [[0, 2, 1, 5], [0, 1, 1, 6]])


class Held(unittest.TestCase):
    SENT = opened() + [write(1, 2, 1, 5), write(1, 3, 2, 6), send(1)]

    def test_no_rows(self):
        self.assertEqual(after(opened(), *[held(number) for number in (1, 2, 3, 4)]), [[0]] * 4)

    def test_neither_the_draft_nor_what_is_under_way(self):
        self.assertEqual(last(*opened(), write(1, 2, 1, 5), held(1)), [0])
        self.assertEqual(last(*self.SENT, held(1)), [0])

    def test_what_arrived(self):
        self.assertEqual(after(self.SENT, deliver(1), held(1), held(2)),
                         [[0, 1, 1, 1, 2], [0, 2, 1, 5, 3, 2, 6], [0]])

    def test_what_was_lost_is_not_held_and_what_comes_again_is(self):
        self.assertEqual(after(self.SENT, lose(1), held(1), tick(), held(1), deliver(1), held(1)),
                         [[0], [0], [0, 1, 0, 1], [0], [0, 1, 1, 1, 2], [0, 2, 1, 5, 3, 2, 6]])

    def test_by_the_other_party_and_then_by_quarter_in_whatever_order_they_were_written(self):
        for number in (1, 2, 3, 4):
            for rows in orders(number):
                calls = opened() + written(number, rows) + [send(number), deliver(1)]
                with self.subTest(number=number, rows=rows):
                    self.assertEqual(last(*calls, held(number)), rows_of(rows))

    def test_an_amount_that_was_written_over_before_it_was_sent(self):
        calls = opened() + written(1, [(2, 1, 5), (2, 2, 6), (3, 3, 7), (2, 1, -8), (3, 3, 0)]) + [send(1), deliver(1)]
        self.assertEqual(last(*calls, held(1)), [0, 2, 1, -8, 2, 2, 6])

    def test_as_it_was_sent_whatever_is_written_since(self):
        for change in ([write(1, 2, 1, 9)], [write(1, 2, 1, 0)], [write(1, 4, 3, 7)], [clear(1)]):
            for calls in (self.SENT + change + [deliver(1)], self.SENT + [deliver(1)] + change,
                          self.SENT + change + [lose(1), tick(), deliver(1)]):
                with self.subTest(calls=calls):
                    self.assertEqual(last(*calls, held(1)), [0, 2, 1, 5, 3, 2, 6])

    def test_a_newer_sheet_takes_the_whole_place(self):
        calls = self.SENT + [clear(1), write(1, 4, 1, 7), send(1), deliver(1), deliver(1)]
        self.assertEqual(last(*calls, held(1)), [0, 4, 1, 7])

    def test_a_newer_sheet_with_no_rows(self):
        calls = self.SENT + [clear(1), send(1), deliver(1), deliver(1)]
        self.assertEqual(last(*calls, held(1)), [0])

    def test_greatest_and_least_amounts(self):
        calls = arrived((1, 2, 1, BILLION), (1, 2, 2, -BILLION), (2, 1, 1, 1), (2, 1, 2, -1))
        self.assertEqual(after(calls, held(1), held(2)), [[0, 2, 1, BILLION, 2, 2, -BILLION], [0, 1, 1, 1, 1, 2, -1]])

    def test_it_stays_when_the_books_are_closed(self):
        self.assertEqual(last(*closed((1, 2, 1, 5)), write(1, 2, 1, 6), send(1), calm(3), held(1)), [0, 2, 1, 5])


class FinalAndTheGate(unittest.TestCase):
    WRITES = [(1, 2, 1, 5), (2, 1, 1, -7)]

    def test_before_the_gate_at_its_own_tick_and_after_it(self):
        for gate in (1, 2, 3, 7, 100):
            calls = arrived(*self.WRITES, gate=gate) + [tick()] * (gate - 1)
            with self.subTest(gate=gate):
                self.assertEqual(after(calls, final(1), final(2), final(3)), [NOT_YET] * 3)
                self.assertEqual(after(calls + [tick()], final(1), final(2), final(3)),
                                 [[0, 2, 1, 5], [0, 1, 1, -5], [0]])
                self.assertEqual(after(calls + [tick(), tick(), calm(3)], final(1), final(2)),
                                 [[0, 2, 1, 5], [0, 1, 1, -5]])

    def test_calm_comes_to_the_gate_too(self):
        for gate in (1, 2, 3, 4, 5, 6):
            for rounds in (1, 2, 3, 4, 5):
                expected = [0, 2, 1, 5] if rounds >= gate else NOT_YET
                self.assertEqual(last(*arrived(*self.WRITES, gate=gate), calm(rounds), final(1)), expected)

    def test_open_opens_the_books_again(self):
        self.assertEqual(after(closed(*self.WRITES), final(1), open_(4, 3, 1), final(1), tick(), final(1)),
                         [[0, 2, 1, 5], [0], NOT_YET, [0, 1, 1, 4], [0]])

    def test_it_waits_for_no_confirmation(self):
        calls = closed(*self.WRITES)
        self.assertEqual(after(calls, lose(1), lose(1), final(1), belief(1), final(2)),
                         [[0], [0], [0, 2, 1, 5], NOT_YET, [0, 1, 1, -5]])

    def test_with_no_such_party_that_comes_first(self):
        for parties in (2, 3):
            for number in range(parties + 1, 5):
                self.assertEqual(last(*opened(parties), final(number)), [-3])
                self.assertEqual(last(*opened(parties, 1, 1), tick(), final(number)), [-3])


class FinalAndMatching(unittest.TestCase):
    # What party 1 says of party 2, what party 2 says of party 1, what is matched for party 1.
    CASES = [
        (5, -7, 5), (7, -5, 5), (5, -5, 5), (1, -1, 1), (1, -BILLION, 1), (BILLION, -1, 1),
        (BILLION, -BILLION, BILLION), (BILLION, -BILLION + 1, BILLION - 1),
        (-5, 7, -5), (-7, 5, -5), (-5, 5, -5), (-1, 1, -1), (-BILLION, 1, -1), (-1, BILLION, -1),
        (-BILLION, BILLION, -BILLION), (-BILLION + 1, BILLION, -BILLION + 1),
        (5, 7, 0), (7, 5, 0), (5, 5, 0), (-5, -7, 0), (-7, -5, 0), (-5, -5, 0), (BILLION, BILLION, 0),
        (0, 0, 0), (5, 0, 0), (-5, 0, 0), (0, 5, 0), (0, -5, 0), (BILLION, 0, 0), (0, -BILLION, 0),
    ]

    def test_each_way(self):
        for own, theirs, matched in self.CASES:
            calls = closed((1, 2, 1, own), (2, 1, 1, theirs), parties=2, quarters=1)
            expected = [[0, 2, 1, matched], [0, 1, 1, -matched]] if matched != 0 else [[0], [0]]
            with self.subTest(own=own, theirs=theirs):
                self.assertEqual(after(calls, final(1), final(2)), expected)

    def test_each_way_between_each_two_parties_in_each_quarter(self):
        for own, theirs, matched in ((5, -7, 5), (7, -5, 5), (-5, 7, -5), (-7, 5, -5), (5, 5, 0), (-5, -5, 0)):
            for one, other in itertools.permutations((1, 2, 3, 4), 2):
                for quarter in (1, 2, 3):
                    calls = closed((one, other, quarter, own), (other, one, quarter, theirs))
                    expected = {number: [0] for number in (1, 2, 3, 4)}
                    if matched != 0:
                        expected[one] = [0, other, quarter, matched]
                        expected[other] = [0, one, quarter, -matched]
                    self.assertEqual(after(calls, final(1), final(2), final(3), final(4)), list(expected.values()))

    def test_nothing_was_ever_said(self):
        self.assertEqual(after(opened(4, 3, 1) + [tick()], final(1), final(4)), [[0], [0]])

    def test_other_parties_and_other_quarters_are_not_matched(self):
        calls = closed((1, 2, 1, 5), (2, 1, 2, -5), (1, 3, 3, 5), (4, 1, 3, -5), (2, 3, 1, 4), (3, 2, 2, -4))
        self.assertEqual(after(calls, final(1), final(2), final(3), final(4)), [[0]] * 4)

    def test_by_the_other_party_and_then_by_quarter_in_whatever_order_they_were_written(self):
        for number in (1, 2, 3, 4):
            for rows in orders(number):
                calls = opened(4, 3, 1) + turned(number, rows[::-1]) + written(number, rows)
                calls += [send(4), send(3), send(2), send(1)] + [deliver(1)] * 8 + [tick()]
                with self.subTest(number=number, rows=rows):
                    self.assertEqual(last(*calls, final(number)), rows_of(rows))
                    for other in (1, 2, 3, 4):
                        theirs = [(number, row[1], -row[2]) for row in rows if row[0] == other]
                        if other != number:
                            self.assertEqual(last(*calls, final(other)), rows_of(theirs))

    def test_rows_that_are_not_matched_are_left_out(self):
        calls = closed((1, 2, 1, 5), (2, 1, 1, -7), (1, 2, 2, 5), (2, 1, 2, 7), (1, 2, 3, -5), (2, 1, 3, 4),
                       (1, 3, 1, 5), (1, 4, 2, 6), (4, 1, 2, -6))
        self.assertEqual(after(calls, final(1), final(2), final(3), final(4)),
                         [[0, 2, 1, 5, 2, 3, -4, 4, 2, 6], [0, 1, 1, -5, 1, 3, 4], [0], [0, 1, 2, -6]])

    def test_an_amount_that_was_written_over(self):
        calls = closed((1, 2, 1, 5), (2, 1, 1, -7), (1, 2, 1, 6), (1, 2, 2, 5), (2, 1, 2, -5), (2, 1, 2, 0))
        self.assertEqual(after(calls, final(1), final(2)), [[0, 2, 1, 6], [0, 1, 1, -6]])

    def test_the_house_s_sheets_count_and_not_the_drafts_or_what_is_under_way(self):
        calls = closed((1, 2, 1, 5), (2, 1, 1, -7)) + [write(1, 2, 1, 1), write(2, 1, 1, 0), send(1), send(2)]
        self.assertEqual(after(calls, final(1), final(2), calm(3), final(1), final(2)),
                         [[0, 2, 1, 5], [0, 1, 1, -5], [0, 4, 1, 0], [0, 2, 1, 5], [0, 1, 1, -5]])

    def test_a_sheet_that_came_too_late_is_not_matched(self):
        calls = opened(2, 1, 1) + [write(1, 2, 1, 5), write(2, 1, 1, -5), send(1), send(2), deliver(1), tick()]
        self.assertEqual(after(calls, deliver(1), final(1), final(2)), [[0, 1, 2, 1, 1], [0], [0]])


class Belief(unittest.TestCase):
    CLOSED = closed((1, 2, 1, 5), (2, 1, 1, -7), (1, 2, 2, 3), (1, 3, 3, -4), (3, 1, 3, 4))

    def test_before_anything_was_believed(self):
        self.assertEqual(after(opened(), *[belief(number) for number in (1, 2, 3, 4)]), [NOT_YET] * 4)
        self.assertEqual(after(arrived((1, 2, 1, 5), (2, 1, 1, -5)), belief(1), belief(2)), [NOT_YET] * 2)

    def test_closed_books_alone_are_not_believed_of(self):
        self.assertEqual(after(self.CLOSED, *[belief(number) for number in (1, 2, 3, 4)]), [NOT_YET] * 4)

    def test_after_a_confirmation_arrived(self):
        self.assertEqual(after(self.CLOSED, deliver(1), belief(1), belief(2), belief(3), belief(4)),
                         [[0, 4, 1, 0, 2], [0, 2, 1, 5, 3, 3, -4], NOT_YET, NOT_YET, NOT_YET])

    def test_each_party_believes_its_own(self):
        calls = self.CLOSED + [deliver(4), deliver(3), deliver(2), deliver(1)]
        self.assertEqual(after(calls, belief(1), belief(2), belief(3), belief(4)),
                         [[0, 2, 1, 5, 3, 3, -4], [0, 1, 1, -5], [0, 1, 3, 4], [0]])

    def test_after_a_second_confirmation(self):
        calls = self.CLOSED + [double(1), deliver(1), deliver(4)]
        self.assertEqual(after(calls, belief(1), belief(2)), [[0, 2, 1, 5, 3, 3, -4], NOT_YET])
        later = self.CLOSED + [deliver(1), write(1, 2, 1, 1), send(1), tick(), deliver(7)]
        self.assertEqual(last(*later), [0, 4, 1, 0, 2])
        self.assertEqual(last(*later, belief(1)), [0, 2, 1, 5, 3, 3, -4])

    def test_nothing_matched_is_believed_too(self):
        calls = opened(3, 1, 1) + [tick()]
        self.assertEqual(after(calls, belief(3), deliver(3), belief(3), belief(1)),
                         [NOT_YET, [0, 4, 3, 0, 0], [0], NOT_YET])

    def test_a_lost_confirmation_is_not_believed_and_the_next_one_is(self):
        self.assertEqual(after(self.CLOSED, lose(1), belief(1), tick(), belief(1), deliver(4), belief(1)),
                         [[0], NOT_YET, [0, 2, 1, 7], NOT_YET, [0, 4, 1, 0, 2], [0, 2, 1, 5, 3, 3, -4]])

    def test_it_stays_whatever_is_written_and_sent_since(self):
        calls = self.CLOSED + [calm(1), clear(1), write(1, 2, 1, 1), write(2, 1, 1, 0), send(1), send(2), calm(3)]
        self.assertEqual(after(calls, belief(1), belief(2)), [[0, 2, 1, 5, 3, 3, -4], [0, 1, 1, -5]])

    def test_by_the_other_party_and_then_by_quarter_in_whatever_order_they_were_written(self):
        for number in (1, 2, 3, 4):
            for rows in orders(number):
                calls = opened(4, 3, 2) + turned(number, rows[::-1]) + written(number, rows)
                calls += [send(4), send(3), send(2), send(1), calm(3)]
                with self.subTest(number=number, rows=rows):
                    self.assertEqual(last(*calls, belief(number)), rows_of(rows))

    def test_greatest_and_least_amounts(self):
        calls = closed((1, 2, 1, BILLION), (2, 1, 1, -BILLION), (1, 2, 2, -BILLION), (2, 1, 2, BILLION)) + [calm(1)]
        self.assertEqual(after(calls, belief(1), belief(2)),
                         [[0, 2, 1, BILLION, 2, 2, -BILLION], [0, 1, 1, -BILLION, 1, 2, BILLION]])

    def test_an_amount_that_was_written_over(self):
        calls = closed((1, 2, 1, 5), (2, 1, 1, -7), (1, 2, 1, 6), (1, 2, 2, 5), (2, 1, 2, -5), (2, 1, 2, 0)) + [calm(1)]
        self.assertEqual(after(calls, belief(1), belief(2)), [[0, 2, 1, 6], [0, 1, 1, -6]])

    def test_open_takes_all_beliefs_away(self):
        self.assertEqual(after(self.CLOSED + [calm(1)], belief(1), open_(4, 3, 1), belief(1)),
                         [[0, 2, 1, 5, 3, 3, -4], [0], NOT_YET])

    def test_with_no_such_party_that_comes_first(self):
        for parties in (2, 3):
            for number in range(parties + 1, 5):
                self.assertEqual(last(*opened(parties), belief(number)), [-3])
                self.assertEqual(last(*opened(parties, 1, 1), calm(3), belief(number)), [-3])


if __name__ == "__main__":
    unittest.main()
