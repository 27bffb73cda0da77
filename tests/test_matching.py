"""Sheets, their rows, and what is matched."""

import unittest

from gatehouse.market import matched_sheet
from gatehouse.sheets import count_rows, match_amounts, read_amount, write_amount
from tests.helper import BILLION, calm, deliver, open_, performed, run, send, tick, write


class Sheets(unittest.TestCase):
    def test_nothing_said_is_zero_and_no_row(self):
        self.assertEqual(read_amount({}, 2, 1), 0)
        self.assertEqual(count_rows({}), 0)

    def test_zero_takes_a_row_away(self):
        sheet = {}
        write_amount(sheet, 2, 1, 5)
        write_amount(sheet, 2, 2, -5)
        self.assertEqual(count_rows(sheet), 2)
        write_amount(sheet, 2, 1, 0)
        self.assertEqual((read_amount(sheet, 2, 1), read_amount(sheet, 2, 2), count_rows(sheet)), (0, -5, 1))

    def test_zero_where_nothing_was_said(self):
        sheet = {}
        write_amount(sheet, 2, 1, 0)
        self.assertEqual(count_rows(sheet), 0)


class Amounts(unittest.TestCase):
    CASES = [
        (5, -7, 5), (7, -5, 5), (5, -5, 5), (-5, 7, -5), (-7, 5, -5), (-5, 5, -5), (1, -BILLION, 1),
        (BILLION, -BILLION, BILLION), (-BILLION, BILLION, -BILLION), (-BILLION, 1, -1), (1, -1, 1), (-1, 1, -1),
        (0, 0, 0), (5, 0, 0), (0, 5, 0), (-5, 0, 0), (0, -5, 0), (5, 7, 0), (-5, -7, 0), (5, 5, 0), (-5, -5, 0),
    ]

    def test_each_case(self):
        for own, theirs, expected in self.CASES:
            with self.subTest(own=own, theirs=theirs):
                self.assertEqual(match_amounts(own, theirs), expected)

    def test_both_are_matched_with_the_same_turned_round(self):
        for own in range(-4, 5):
            for theirs in range(-4, 5):
                self.assertEqual(match_amounts(own, theirs), -match_amounts(theirs, own))


def held(*writes, parties=4, quarters=3):
    calls = [open_(parties, quarters, 100)] + [write(*numbers) for numbers in writes]
    return performed(calls + [send(number) for number in range(1, parties + 1)] + [calm(1)]).market


class MatchedSheets(unittest.TestCase):
    def test_two_parties(self):
        market = held((1, 2, 1, 5), (2, 1, 1, -7))
        self.assertEqual(matched_sheet(market, 1), {(2, 1): 5})
        self.assertEqual(matched_sheet(market, 2), {(1, 1): -5})
        self.assertEqual(matched_sheet(market, 3), {})

    def test_quarters_and_parties_are_kept_apart(self):
        market = held((1, 2, 1, 5), (2, 1, 2, -5), (1, 3, 3, 5), (4, 1, 3, -5), (2, 3, 1, 4), (3, 2, 2, -4))
        for number in (1, 2, 3, 4):
            self.assertEqual(matched_sheet(market, number), {})

    def test_every_pair_and_quarter(self):
        writes = []
        for one in range(1, 5):
            for other in range(one + 1, 5):
                for quarter in range(1, 4):
                    amount = one * 100 + other * 10 + quarter
                    writes.append((one, other, quarter, amount))
                    writes.append((other, one, quarter, -amount - 1000))
        market = held(*writes)
        for one in range(1, 5):
            expected = {}
            for other in range(1, 5):
                for quarter in range(1, 4):
                    if one < other:
                        expected[(other, quarter)] = one * 100 + other * 10 + quarter
                    elif one > other:
                        expected[(other, quarter)] = -(other * 100 + one * 10 + quarter)
            self.assertEqual(matched_sheet(market, one), expected)

    def test_what_the_house_holds_counts_and_not_the_draft_or_what_is_under_way(self):
        calls = [open_(2, 1, 100), write(1, 2, 1, 5), write(2, 1, 1, -5), send(1), send(2), calm(1),
                 write(1, 2, 1, 3), send(1), write(2, 1, 1, 0)]
        market = performed(calls).market
        self.assertEqual(matched_sheet(market, 1), {(2, 1): 5})

    def test_rows_of_what_was_matched_are_told(self):
        given = run(open_(3, 2, 1), write(1, 2, 1, 5), write(2, 1, 1, -7), write(1, 2, 2, -3), write(2, 1, 2, 3),
                    write(1, 3, 1, 8), write(3, 1, 1, 8), send(1), send(2), send(3), *[deliver(1)] * 6,
                    tick(), deliver(1), deliver(1), deliver(1))
        self.assertEqual(given[10:13], [[0, 1, 1, 1, 3], [0, 1, 2, 1, 2], [0, 1, 3, 1, 1]])
        self.assertEqual(given[-3:], [[0, 4, 1, 0, 2], [0, 4, 2, 0, 2], [0, 4, 3, 0, 0]])


if __name__ == "__main__":
    unittest.main()
