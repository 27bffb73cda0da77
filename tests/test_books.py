"""unmatched and total: what the house can tell of all that it holds."""

import itertools
import unittest

from tests.helper import (
    BILLION, after, arrived, calm, deliver, double, final, last, lose, open_, opened, send, tick, total, unmatched,
    write,
)

SIZES = [(parties, quarters) for parties in (2, 3, 4) for quarters in (1, 2, 3)]


def pairs(parties, quarters):
    """Each P < R and each quarter, by P, then R, then quarter."""
    for one in range(1, parties + 1):
        for other in range(one + 1, parties + 1):
            for quarter in range(1, quarters + 1):
                yield one, other, quarter


class Unmatched(unittest.TestCase):
    def test_nothing_said(self):
        for parties, quarters in SIZES:
            self.assertEqual(last(*opened(parties, quarters), unmatched()), [0])
            self.assertEqual(last(*arrived(parties=parties, quarters=quarters), unmatched()), [0])

    def test_one_side_alone(self):
        for amount in (5, -5, BILLION, -BILLION):
            self.assertEqual(last(*arrived((1, 2, 1, amount)), unmatched()), [0, 1, 2, 1, amount, 0])
            self.assertEqual(last(*arrived((2, 1, 1, amount)), unmatched()), [0, 1, 2, 1, 0, amount])

    def test_both_sides_alike_but_for_the_sign(self):
        for amount in (1, 5, -5, BILLION, -BILLION):
            self.assertEqual(last(*arrived((1, 2, 1, amount), (2, 1, 1, -amount)), unmatched()), [0])

    def test_both_sides_said_but_not_turned_round(self):
        for own, theirs in ((5, -7), (7, -5), (-5, 7), (-7, 5), (5, 5), (-5, -5), (5, 7), (5, -4), (5, -6),
                            (BILLION, BILLION), (BILLION, -BILLION + 1), (-BILLION, -BILLION)):
            with self.subTest(own=own, theirs=theirs):
                self.assertEqual(last(*arrived((1, 2, 1, own), (2, 1, 1, theirs)), unmatched()),
                                 [0, 1, 2, 1, own, theirs])

    def test_each_two_parties_and_each_quarter_alone(self):
        for parties, quarters in SIZES:
            for one, other, quarter in pairs(parties, quarters):
                size = {"parties": parties, "quarters": quarters}
                self.assertEqual(last(*arrived((one, other, quarter, 5), **size), unmatched()),
                                 [0, one, other, quarter, 5, 0])
                self.assertEqual(last(*arrived((other, one, quarter, 5), **size), unmatched()),
                                 [0, one, other, quarter, 0, 5])
                self.assertEqual(last(*arrived((one, other, quarter, 5), (other, one, quarter, -6), **size),
                                      unmatched()),
                                 [0, one, other, quarter, 5, -6])

    def test_all_of_them_by_p_then_r_then_quarter(self):
        for parties, quarters in SIZES:
            writes = []
            expected = [0]
            for one, other, quarter in pairs(parties, quarters):
                amount = 100 * one + 10 * other + quarter
                writes += [(one, other, quarter, amount), (other, one, quarter, -amount - 1000)]
                expected += [one, other, quarter, amount, -amount - 1000]
            for order in (writes, writes[::-1], sorted(writes, key=lambda numbers: (numbers[2], -numbers[0]))):
                with self.subTest(parties=parties, quarters=quarters):
                    self.assertEqual(last(*arrived(*order, parties=parties, quarters=quarters), unmatched()), expected)

    def test_the_order_in_which_the_sheets_arrive_does_not_matter(self):
        for order in itertools.permutations((1, 2, 3)):
            calls = opened(3, 1) + [write(1, 2, 1, 5), write(2, 3, 1, 6), write(3, 1, 1, 7)]
            calls += [send(number) for number in order] + [deliver(1)] * 3
            self.assertEqual(last(*calls, unmatched()), [0, 1, 2, 1, 5, 0, 1, 3, 1, 0, 7, 2, 3, 1, 6, 0])

    def test_those_that_agree_are_left_out(self):
        calls = arrived((1, 2, 1, 5), (2, 1, 1, -5), (1, 2, 2, 5), (2, 1, 2, -4), (1, 3, 1, 3), (3, 1, 1, -3),
                        (3, 4, 3, -1), (4, 3, 3, 1), (2, 4, 3, 9))
        self.assertEqual(last(*calls, unmatched()), [0, 1, 2, 2, 5, -4, 2, 4, 3, 9, 0])

    def test_another_quarter_or_another_party_does_not_agree(self):
        self.assertEqual(last(*arrived((1, 2, 1, 5), (2, 1, 2, -5)), unmatched()), [0, 1, 2, 1, 5, 0, 1, 2, 2, 0, -5])
        self.assertEqual(last(*arrived((1, 2, 1, 5), (3, 1, 1, -5)), unmatched()), [0, 1, 2, 1, 5, 0, 1, 3, 1, 0, -5])

    def test_neither_drafts_nor_what_is_under_way(self):
        calls = opened() + [write(1, 2, 1, 5)]
        self.assertEqual(after(calls, unmatched(), send(1), unmatched(), deliver(1), unmatched()),
                         [[0], [0, 1], [0], [0, 1, 1, 1, 1], [0, 1, 2, 1, 5, 0]])

    def test_before_the_gate_at_it_and_after_it(self):
        calls = arrived((1, 2, 1, 5), (2, 1, 1, -7), gate=2)
        self.assertEqual(after(calls, unmatched(), tick(), unmatched(), tick(), unmatched(), calm(2), unmatched()),
                         [[0, 1, 2, 1, 5, -7], [0, 1, 0, 0], [0, 1, 2, 1, 5, -7], [0, 2, 1, 4], [0, 1, 2, 1, 5, -7],
                          [0, 4, 1, 0], [0, 1, 2, 1, 5, -7]])

    def test_a_newer_sheet_makes_it_agree(self):
        calls = arrived((1, 2, 1, 5), (2, 1, 1, -7)) + [write(1, 2, 1, 7), send(1)]
        self.assertEqual(after(calls, unmatched(), deliver(1), unmatched()),
                         [[0, 1, 2, 1, 5, -7], [0, 1, 1, 2, 1], [0]])

    def test_an_older_or_a_late_sheet_changes_nothing(self):
        older = opened(2, 1) + [write(1, 2, 1, 5), send(1), write(1, 2, 1, 6), send(1), double(1), deliver(2),
                                deliver(1), deliver(1)]
        self.assertEqual(last(*older, unmatched()), [0, 1, 2, 1, 6, 0])
        late = arrived((1, 2, 1, 5), parties=2, quarters=1, gate=1) + [write(1, 2, 1, 0), send(1), tick(), calm(2)]
        self.assertEqual(last(*late, unmatched()), [0, 1, 2, 1, 5, 0])

    def test_an_amount_written_over_with_0(self):
        calls = arrived((1, 2, 1, 5), (1, 2, 1, 0), (1, 3, 1, 4), (1, 3, 1, -4))
        self.assertEqual(last(*calls, unmatched()), [0, 1, 3, 1, -4, 0])

    def test_open_begins_anew(self):
        self.assertEqual(last(*arrived((1, 2, 1, 5)), open_(4, 3, 100), unmatched()), [0])


class Total(unittest.TestCase):
    def test_nothing_said(self):
        for parties, quarters in SIZES:
            for quarter in range(1, quarters + 1):
                self.assertEqual(last(*opened(parties, quarters), total(quarter)), [0] + [0] * parties)

    def test_two_parties(self):
        for own, theirs, matched in ((5, -7, 5), (7, -5, 5), (-5, 7, -5), (-7, 5, -5), (5, -5, 5), (5, 5, 0),
                                     (-5, -7, 0), (5, 0, 0), (0, -5, 0), (BILLION, -BILLION, BILLION)):
            calls = arrived((1, 2, 1, own), (2, 1, 1, theirs), parties=2, quarters=1)
            with self.subTest(own=own, theirs=theirs):
                self.assertEqual(last(*calls, total(1)), [0, matched, -matched])

    def test_each_quarter_by_itself(self):
        calls = arrived((1, 2, 1, 5), (2, 1, 1, -7), (1, 2, 2, -3), (2, 1, 2, 2), (1, 3, 3, 9), (3, 1, 3, -4))
        self.assertEqual(after(calls, total(1), total(2), total(3)), [[0, 5, -5, 0, 0], [0, -2, 2, 0, 0],
                                                                      [0, 4, 0, -4, 0]])

    def test_each_two_parties_and_each_quarter_alone(self):
        for parties, quarters in SIZES:
            for one, other, quarter in pairs(parties, quarters):
                calls = arrived((one, other, quarter, -5), (other, one, quarter, 8), parties=parties, quarters=quarters)
                sums = [0] * parties
                sums[one - 1] = -5
                sums[other - 1] = 5
                for asked in range(1, quarters + 1):
                    expected = [0] + (sums if asked == quarter else [0] * parties)
                    self.assertEqual(last(*calls, total(asked)), expected)

    def test_the_sum_over_all_other_parties(self):
        calls = arrived((1, 2, 1, 5), (2, 1, 1, -5), (1, 3, 1, 7), (3, 1, 1, -6), (1, 4, 1, -2), (4, 1, 1, 9),
                        (2, 3, 1, 10), (3, 2, 1, -10), (2, 4, 1, 1), (3, 4, 1, 4), (4, 3, 1, -3))
        self.assertEqual(last(*calls, total(1)), [0, 9, 5, -13, -1])

    def test_amounts_that_cancel_out(self):
        calls = arrived((1, 2, 1, 5), (2, 1, 1, -5), (2, 3, 1, 5), (3, 2, 1, -5), (3, 1, 1, 5), (1, 3, 1, -5),
                        parties=3)
        self.assertEqual(last(*calls, total(1)), [0, 0, 0, 0])

    def test_greatest_sums(self):
        writes = [(1, other, 3, BILLION) for other in (2, 3, 4)] + [(other, 1, 3, -BILLION) for other in (2, 3, 4)]
        self.assertEqual(last(*arrived(*writes), total(3)), [0, 3 * BILLION, -BILLION, -BILLION, -BILLION])
        turned = [(one, other, quarter, -amount) for one, other, quarter, amount in writes]
        self.assertEqual(last(*arrived(*turned), total(3)), [0, -3 * BILLION, BILLION, BILLION, BILLION])

    def test_the_sums_of_all_parties_add_up_to_0(self):
        for parties, quarters in SIZES:
            writes = []
            for one, other, quarter in pairs(parties, quarters):
                sign = 1 if (one + quarter) % 2 == 0 else -1
                writes += [(one, other, quarter, sign * (10 * other + one)), (other, one, quarter, -sign * 22 * one)]
            calls = arrived(*writes, parties=parties, quarters=quarters)
            for quarter in range(1, quarters + 1):
                given = last(*calls, total(quarter))
                self.assertEqual((given[0], len(given), sum(given)), (0, parties + 1, 0))
                self.assertNotEqual(given[1], 0)

    def test_before_the_gate_at_it_and_after_it(self):
        calls = arrived((1, 2, 1, 5), (2, 1, 1, -7), parties=2, gate=2)
        self.assertEqual(after(calls, total(1), tick(), total(1), tick(), total(1), calm(2), total(1)),
                         [[0, 5, -5], [0, 1, 0, 0], [0, 5, -5], [0, 2, 1, 2], [0, 5, -5], [0, 4, 1, 0], [0, 5, -5]])

    def test_as_it_is_with_what_the_house_holds_now(self):
        calls = opened(2, 1) + [write(1, 2, 1, 5), write(2, 1, 1, -7), send(1), send(2)]
        self.assertEqual(after(calls, total(1), deliver(1), total(1), deliver(1), total(1)),
                         [[0, 0, 0], [0, 1, 1, 1, 1], [0, 0, 0], [0, 1, 2, 1, 1], [0, 5, -5]])
        changed = arrived((1, 2, 1, 5), (2, 1, 1, -7), parties=2, quarters=1) + [write(1, 2, 1, 6), send(1)]
        self.assertEqual(after(changed, total(1), deliver(1), total(1)), [[0, 5, -5], [0, 1, 1, 2, 1], [0, 6, -6]])

    def test_a_late_or_a_lost_sheet_is_not_counted(self):
        calls = arrived((1, 2, 1, 5), (2, 1, 1, -7), parties=2, quarters=1, gate=1) + [write(1, 2, 1, 6), send(1)]
        self.assertEqual(last(*calls, lose(1), total(1)), [0, 5, -5])
        self.assertEqual(after(calls, tick(), deliver(1), total(1), final(1)),
                         [[0, 1, 1, 4], [0, 1, 1, 2, 1], [0, 5, -5], [0, 2, 1, 5]])

    def test_no_such_quarter(self):
        for parties in (2, 3, 4):
            self.assertEqual(after(opened(parties, 1), total(1), total(2), total(3)), [[0] * (parties + 1), [-4], [-4]])
            self.assertEqual(after(opened(parties, 2), total(2), total(3)), [[0] * (parties + 1), [-4]])
            self.assertEqual(after(opened(parties, 3), total(3), total(4), total(0)),
                             [[0] * (parties + 1), [-1], [-1]])

    def test_open_begins_anew(self):
        self.assertEqual(last(*arrived((1, 2, 1, 5), (2, 1, 1, -5)), open_(3, 1, 1), total(1)), [0, 0, 0, 0])


if __name__ == "__main__":
    unittest.main()
