"""tick and calm: the gate, who posts again, the confirmations."""

import unittest

from tests.helper import (
    after, calm, deliver, double, filled, in_net, in_net_short, last, lose, open_, opened, party, performed, run, send,
    snapshot, tick, write,
)


class Gate(unittest.TestCase):
    def test_the_tick_before_the_gates_own_and_after(self):
        for gate in (2, 3, 7, 100):
            given = run(open_(2, 1, gate), *[tick()] * (gate + 1))
            self.assertEqual(given[gate - 1:], [[0, gate - 1, 0, 0], [0, gate, 1, 2], [0, gate + 1, 1, 4]])

    def test_a_gate_of_1(self):
        self.assertEqual(run(open_(2, 1, 1), tick(), tick()), [[0], [0, 1, 1, 2], [0, 2, 1, 4]])

    def test_a_sheet_that_arrives_before_the_gates_own_tick_is_held(self):
        calls = [open_(2, 1, 2), tick(), send(1)]
        self.assertEqual(after(calls, deliver(1), tick(), deliver(1), party(1)),
                         [[0, 1, 1, 1, 0], [0, 2, 1, 4], [0, 2, 1, 1, 0], [0, 1, 1, 0, 0, 0]])

    def test_a_sheet_that_arrives_behind_it_is_not(self):
        calls = [open_(2, 1, 2), tick(), send(1), tick()]
        self.assertEqual(in_net_short(calls), [(1, 1, 1), (1, 1, 1), (4, 1, 0), (4, 2, 0)])
        self.assertEqual(after(calls, deliver(1), deliver(4), party(1)),
                         [[0, 1, 1, 1, 0], [0, 3, 1, 1, 0], [0, 1, 0, 0, 1, 0]])

    def test_the_books_stay_closed(self):
        given = run(open_(2, 1, 3), *[calm(5)] * 20)
        self.assertEqual([answer[2] for answer in given[1:]], [1] * 20)


class PostedAgain(unittest.TestCase):
    def test_nobody_waits(self):
        self.assertEqual(run(*opened(), tick(), tick()), [[0], [0, 1, 0, 0], [0, 2, 0, 0]])

    def test_who_waits_in_the_order_of_parties(self):
        calls = opened() + [send(4), send(1), send(3), tick()]
        self.assertEqual(run(*calls)[-1], [0, 1, 0, 6])
        self.assertEqual(in_net_short(calls)[3:], [(1, 1, 1), (1, 3, 1), (1, 4, 1)])

    def test_the_version_and_sheet_sent_last(self):
        calls = opened() + [write(1, 2, 1, 5), send(1), write(1, 3, 1, 6), send(1), write(1, 4, 1, 7), tick()]
        self.assertEqual(in_net(calls)[2:], [(1, 1, 2, {(2, 1): 5, (3, 1): 6})])

    def test_once_for_each_tick(self):
        calls = opened() + [send(2), tick(), tick(), tick()]
        self.assertEqual(run(*calls)[-3:], [[0, 1, 0, 2], [0, 2, 0, 3], [0, 3, 0, 4]])

    def test_no_more_when_it_is_acknowledged(self):
        calls = opened() + [send(1), send(2), deliver(1), deliver(2), tick()]
        self.assertEqual(in_net_short(calls), [(1, 2, 1), (1, 2, 1)])

    def test_still_when_an_older_one_is_acknowledged(self):
        calls = opened() + [send(1), deliver(1), send(1), deliver(1), lose(1), tick()]
        self.assertEqual(in_net_short(calls), [(1, 1, 2)])

    def test_also_when_the_books_are_closed_and_before_the_confirmations(self):
        calls = opened(3, 1, 1) + [send(3), send(1), lose(1), lose(1), tick()]
        self.assertEqual(in_net_short(calls), [(1, 1, 1), (1, 3, 1), (4, 1, 0), (4, 2, 0), (4, 3, 0)])


class Confirmations(unittest.TestCase):
    MATCHED = [open_(3, 2, 1), write(1, 2, 1, 5), write(2, 1, 1, -7), write(1, 2, 2, -1), write(2, 1, 2, 4),
               write(1, 3, 1, 9), send(1), send(2), send(3), deliver(1), deliver(1), deliver(1), deliver(1),
               deliver(1), deliver(1), tick()]

    def test_what_is_matched_goes_to_each_party_in_order(self):
        self.assertEqual(in_net(self.MATCHED),
                         [(4, 1, 0, {(2, 1): 5, (2, 2): -1}), (4, 2, 0, {(1, 1): -5, (1, 2): 1}), (4, 3, 0, {})])

    def test_again_at_each_tick_while_they_are_not_seen(self):
        self.assertEqual(after(self.MATCHED, tick(), tick()), [[0, 2, 1, 6], [0, 3, 1, 9]])
        self.assertEqual(in_net(self.MATCHED + [tick()])[3:], in_net(self.MATCHED))

    def test_believed_is_not_seen(self):
        calls = self.MATCHED + [deliver(2), lose(3), tick()]
        self.assertEqual(in_net_short(calls), [(4, 1, 0), (4, 3, 0), (4, 1, 0), (4, 2, 0), (4, 3, 0)])

    def test_no_more_to_who_has_seen_it(self):
        calls = self.MATCHED + [deliver(2), deliver(3), tick()]
        self.assertEqual(run(*calls)[-1], [0, 2, 1, 4])
        self.assertEqual(in_net_short(calls), [(4, 1, 0), (4, 3, 0), (4, 1, 0), (4, 3, 0)])

    def test_none_when_all_have_seen_it(self):
        self.assertEqual(after(self.MATCHED + [calm(1)], tick(), tick()), [[0, 3, 1, 0], [0, 4, 1, 0]])

    def test_none_while_the_books_are_not_closed(self):
        calls = opened(2, 1, 3) + [send(1), send(2), calm(1), tick()]
        self.assertEqual(in_net_short(calls), [])

    def test_to_parties_that_sent_nothing_too(self):
        self.assertEqual(in_net_short(opened(4, 3, 1) + [tick()]), [(4, 1, 0), (4, 2, 0), (4, 3, 0), (4, 4, 0)])


class Calm(unittest.TestCase):
    def test_each_count_on_an_empty_net_before_the_gate(self):
        for rounds in (1, 2, 3, 4, 5):
            self.assertEqual(last(open_(2, 1, 100), calm(rounds)), [0, rounds, 0, 0])

    def test_each_count_across_the_gate(self):
        # The confirmations are posted by the gate's own tick and seen in the round behind it.
        for gate in (1, 2, 3, 4, 5, 6):
            for rounds in (1, 2, 3, 4, 5):
                closed = 1 if rounds >= gate else 0
                under_way = 3 if rounds == gate else 0
                believes = 1 if rounds > gate else 0
                with self.subTest(gate=gate, rounds=rounds):
                    self.assertEqual(after([open_(3, 1, gate)], calm(rounds), party(3)),
                                     [[0, rounds, closed, under_way], [0, 0, 0, 0, 0, believes]])

    def test_each_count_on_a_full_net(self):
        for rounds in (1, 2, 3, 4, 5):
            with self.subTest(rounds=rounds):
                self.assertEqual(after(filled(40), calm(rounds), party(1)), [[0, rounds, 0, 0], [0, 1, 1, 0, 0, 0]])

    def test_each_count_on_a_full_net_across_the_gate(self):
        for rounds in (1, 2, 3, 4, 5):
            under_way = 4 if rounds == 1 else 0
            believes = 0 if rounds == 1 else 1
            with self.subTest(rounds=rounds):
                self.assertEqual(after(filled(40, 4, 3, 1), calm(rounds), party(1)),
                                 [[0, rounds, 1, under_way], [0, 1, 1, 0, 0, believes]])

    def test_a_full_net_when_the_books_are_closed_already(self):
        calls = opened(2, 1, 1) + [tick(), send(1), send(2)] + [double(3)] * 36
        for rounds in (1, 2, 3, 4, 5):
            with self.subTest(rounds=rounds):
                self.assertEqual(after(calls, calm(rounds), party(1), party(2)),
                                 [[0, 1 + rounds, 1, 0], [0, 1, 0, 0, 1, 1], [0, 1, 0, 0, 1, 1]])

    def test_what_is_posted_meanwhile_arrives_before_the_tick(self):
        self.assertEqual(after(opened() + [send(1)], calm(1), party(1)), [[0, 1, 0, 0], [0, 1, 1, 0, 0, 0]])

    def test_the_tick_is_behind_the_arrivals(self):
        # The sheet arrives while the books aren't closed, though this calm closes them.
        calls = opened(2, 1, 1) + [send(1)]
        self.assertEqual(after(calls, calm(1), party(1)), [[0, 1, 1, 2], [0, 1, 1, 0, 0, 0]])

    def test_what_the_last_tick_posts_stays_in_the_net(self):
        calls = opened() + [send(1), lose(1)]
        self.assertEqual(after(calls, calm(1), deliver(1)), [[0, 1, 0, 1], [0, 1, 1, 1, 0]])

    def test_the_first_message_first(self):
        # Version 2 stands before version 1 here: the house must end with version 2.
        calls = opened() + [write(1, 2, 1, 5), send(1), write(1, 2, 1, 6), send(1), double(1), lose(1), calm(1)]
        account = performed(calls).market.account_of(1)
        self.assertEqual((account.version, account.sheet), (2, {(2, 1): 6}))
        order = opened(3, 1, 1) + [tick(), send(2), send(3), send(1)]
        one_by_one = order + [deliver(1)] * 12
        self.assertEqual(in_net_short(one_by_one), [])
        self.assertEqual(snapshot(performed(one_by_one + [tick()])), snapshot(performed(order + [calm(1)])))

    def test_many_rounds_are_as_many_calms(self):
        calls = opened(4, 3, 3) + [write(1, 2, 1, 5), write(2, 1, 1, -4), send(1), send(2), send(3), lose(1), lose(1)]
        for rounds in (2, 3, 4, 5):
            self.assertEqual(snapshot(performed(calls + [calm(rounds)])),
                             snapshot(performed(calls + [calm(1)] * rounds)))

    def test_a_waiting_party_with_a_lost_message_across_the_gate_is_too_late(self):
        calls = opened(2, 1, 1) + [send(1), lose(1)]
        self.assertEqual(after(calls, calm(1), party(1), calm(1), party(1)),
                         [[0, 1, 1, 3], [0, 1, 0, 1, 0, 0], [0, 2, 1, 0], [0, 1, 0, 0, 1, 1]])


if __name__ == "__main__":
    unittest.main()
