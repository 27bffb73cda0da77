"""open, write, clear, send and party, as far as a party alone is concerned."""

import unittest

from tests.helper import (
    after, calm, clear, deliver, filled, in_net, last, lose, open_, opened, party, performed, run, send, snapshot,
    tick, write,
)

NEW_PARTY = [0, 0, 0, 0, 0, 0]


class Open(unittest.TestCase):
    def test_answers_nothing_more(self):
        self.assertEqual(last(open_(2, 1, 1)), [0])

    def test_all_is_at_its_beginning(self):
        given = run(open_(4, 3, 100), party(1), party(2), party(3), party(4), deliver(1), tick())
        self.assertEqual(given, [[0]] + [NEW_PARTY] * 4 + [[-6], [0, 1, 0, 0]])

    def test_a_second_open_begins_all_anew(self):
        before = [open_(3, 3, 2), write(1, 2, 1, 5), write(2, 1, 1, -5), write(1, 3, 2, 4), send(1), send(2), calm(4),
                  send(3), send(1), calm(1), tick(), send(2)]
        for numbers in ((3, 3, 2), (2, 1, 100), (4, 2, 1)):
            again = open_(*numbers)
            self.assertEqual(last(*before, again), [0])
            self.assertEqual(snapshot(performed(before + [again])), snapshot(performed([again])))

    def test_a_second_open_answers_as_the_first(self):
        before = [open_(3, 3, 1), write(1, 2, 1, 5), send(1), send(2), calm(4), send(3), tick()]
        probes = [party(1), party(2), party(3), party(4), deliver(1), tick(), send(1), deliver(1), write(1, 4, 3, 5),
                  tick(), tick(), deliver(1)]
        for numbers in ((3, 3, 2), (2, 1, 100), (4, 3, 1)):
            again = open_(*numbers)
            self.assertEqual(after(before + [again], *probes), after([again], *probes))

    def test_the_draft_is_gone_after_a_second_open(self):
        given = after([open_(2, 1, 5), write(1, 2, 1, 5), open_(2, 1, 5)], send(1), deliver(1))
        self.assertEqual(given, [[0, 1], [0, 1, 1, 1, 0]])

    def test_time_begins_at_0_again(self):
        self.assertEqual(after([open_(2, 1, 3), tick(), tick(), open_(2, 1, 3)], tick(), tick(), tick()),
                         [[0, 1, 0, 0], [0, 2, 0, 0], [0, 3, 1, 2]])

    def test_a_refused_open_leaves_what_was_open(self):
        before = [open_(3, 2, 2), write(1, 2, 1, 5), send(1), tick()]
        probes = [party(1), tick(), deliver(1), deliver(1), send(3), send(4), write(1, 2, 2, 1), write(1, 2, 3, 1)]
        for numbers in ((1, 1, 1), (5, 1, 1), (2, 0, 1), (2, 4, 1), (2, 1, 0), (2, 1, 101), (-1, -1, -1)):
            refused = open_(*numbers)
            self.assertEqual(last(*before, refused), [-1])
            self.assertEqual(after(before + [refused], *probes), after(before, *probes))

    def test_gate_of_1_and_of_100(self):
        self.assertEqual(run(open_(2, 1, 1), tick())[-1], [0, 1, 1, 2])
        given = run(open_(2, 1, 100), *[tick()] * 100)
        self.assertEqual(given[99:], [[0, 99, 0, 0], [0, 100, 1, 2]])


class Write(unittest.TestCase):
    def draft(self, *calls):
        return performed(opened() + list(calls)).market.party_of(1).draft

    def test_answers_nothing_more_and_posts_nothing(self):
        self.assertEqual(after(opened(), write(1, 2, 3, 5), deliver(1)), [[0], [-6]])

    def test_sets_one_amount(self):
        self.assertEqual(self.draft(write(1, 2, 3, 5)), {(2, 3): 5})

    def test_the_later_amount_stands(self):
        self.assertEqual(self.draft(write(1, 2, 3, 5), write(1, 2, 3, -6)), {(2, 3): -6})

    def test_amounts_stand_side_by_side(self):
        given = self.draft(write(1, 2, 3, 5), write(1, 3, 2, 6), write(1, 2, 1, 7), write(1, 4, 3, 8))
        self.assertEqual(given, {(2, 3): 5, (3, 2): 6, (2, 1): 7, (4, 3): 8})

    def test_zero_is_no_row(self):
        self.assertEqual(self.draft(write(1, 2, 3, 5), write(1, 2, 3, 0)), {})
        given = after(opened(), write(1, 2, 3, 5), write(1, 3, 3, 5), write(1, 2, 3, 0), send(1), deliver(1))
        self.assertEqual(given[-1], [0, 1, 1, 1, 1])

    def test_another_party_and_its_draft_are_untouched(self):
        self.assertEqual(self.draft(write(2, 1, 3, 5)), {})
        self.assertEqual(after(opened(), write(2, 1, 3, 5), send(1), send(2), deliver(1), deliver(1))[-2:],
                         [[0, 1, 1, 1, 0], [0, 1, 2, 1, 1]])

    def test_all_nine_rows(self):
        calls = [write(1, other, quarter, other * quarter) for other in (2, 3, 4) for quarter in (1, 2, 3)]
        self.assertEqual(last(*opened(), *calls, send(1), deliver(1)), [0, 1, 1, 1, 9])

    def test_is_allowed_when_the_books_are_closed(self):
        self.assertEqual(after(opened(2, 1, 1) + [calm(3)], write(1, 2, 1, 5), send(1), deliver(1)),
                         [[0], [0, 1], [0, 1, 1, 1, 1]])


class Clear(unittest.TestCase):
    def test_all_is_0_then(self):
        before = opened() + [write(1, 2, 1, 5), write(1, 3, 2, -5)]
        self.assertEqual(after(before, clear(1), send(1), deliver(1)), [[0], [0, 1], [0, 1, 1, 1, 0]])
        self.assertEqual(performed(before + [clear(1)]).market.party_of(1).draft, {})

    def test_of_a_draft_that_is_clear(self):
        self.assertEqual(after(opened(), clear(1), clear(1), party(1)), [[0], [0], NEW_PARTY])

    def test_another_party_is_untouched(self):
        before = opened() + [write(1, 2, 1, 5), write(2, 1, 1, 5), clear(2)]
        self.assertEqual(performed(before).market.party_of(1).draft, {(2, 1): 5})
        self.assertEqual(performed(before).market.party_of(2).draft, {})

    def test_versions_and_waiting_stay(self):
        self.assertEqual(after(opened() + [send(1), send(1)], clear(1), party(1)), [[0], [0, 2, 0, 1, 0, 0]])

    def test_writing_goes_on_afterwards(self):
        calls = opened() + [write(1, 2, 1, 5), clear(1), write(1, 3, 1, 6)]
        self.assertEqual(performed(calls).market.party_of(1).draft, {(3, 1): 6})


class Send(unittest.TestCase):
    def test_answers_the_version_and_posts_behind_all_others(self):
        calls = opened() + [write(1, 2, 1, 5), send(1), send(2), write(1, 2, 1, 6), send(1)]
        self.assertEqual(run(*calls)[-1], [0, 2])
        self.assertEqual(in_net(calls), [(1, 1, 1, {(2, 1): 5}), (1, 2, 1, {}), (1, 1, 2, {(2, 1): 6})])

    def test_then_the_party_waits(self):
        self.assertEqual(after(opened(), send(2), party(2), party(1)), [[0, 1], [0, 1, 0, 1, 0, 0], NEW_PARTY])

    def test_the_draft_stays(self):
        calls = opened() + [write(1, 2, 1, 5), send(1)]
        self.assertEqual(performed(calls).market.party_of(1).draft, {(2, 1): 5})
        self.assertEqual(last(*calls, lose(1), send(1), deliver(1)), [0, 1, 1, 2, 1])

    def test_an_empty_draft_is_sent_too(self):
        self.assertEqual(after(opened(), send(1), deliver(1)), [[0, 1], [0, 1, 1, 1, 0]])

    def test_what_was_sent_stays_as_it_was_sent(self):
        before = opened() + [write(1, 2, 1, 5), write(1, 3, 2, 6), send(1)]
        sheet = {(2, 1): 5, (3, 2): 6}
        changes = (
            [write(1, 2, 1, 9)], [write(1, 2, 1, 0)], [write(1, 4, 3, 7)], [clear(1)],
            [clear(1), write(1, 2, 1, 1)],
        )
        for change in changes:
            with self.subTest(change=change):
                self.assertEqual(in_net(before + change), [(1, 1, 1, sheet)])
                self.assertEqual(in_net(before + change + [lose(1), tick()]), [(1, 1, 1, sheet)])
                self.assertEqual(last(*before, *change, deliver(1)), [0, 1, 1, 1, 2])
                self.assertEqual(last(*before, *change, lose(1), tick(), deliver(1)), [0, 1, 1, 1, 2])
                market = performed(before + [deliver(1)] + change).market
                self.assertEqual(market.account_of(1).sheet, sheet)

    def test_what_was_sent_stays_when_it_is_sent_again(self):
        calls = opened() + [write(1, 2, 1, 5), send(1), clear(1), send(1), deliver(1)]
        market = performed(calls).market
        self.assertEqual(market.account_of(1).sheet, {(2, 1): 5})
        self.assertEqual(market.party_of(1).sent, {})

    def test_a_party_that_was_too_late_is_not_when_it_sends_again(self):
        late = opened(2, 1, 1) + [tick(), lose(1), lose(1), send(1), deliver(1), deliver(1)]
        self.assertEqual(after(late, party(1), send(1), party(1)), [[0, 1, 0, 0, 1, 0], [0, 2], [0, 2, 0, 1, 0, 0]])

    def test_the_fiftieth_version_and_the_next(self):
        before = opened() + [send(1), lose(1)] * 49
        self.assertEqual(after(before, send(1), send(1), deliver(1), deliver(1), party(1), send(1)),
                         [[0, 50], [-5], [0, 1, 1, 50, 0], [0, 2, 1, 50, 0], [0, 50, 50, 0, 0, 0], [-5]])

    def test_the_fiftieth_version_is_posted_again_at_a_tick(self):
        before = opened() + [send(1), lose(1)] * 50
        self.assertEqual(after(before, tick(), deliver(1)), [[0, 1, 0, 1], [0, 1, 1, 50, 0]])

    def test_a_refused_51st_send_changes_neither_sheet_nor_waiting(self):
        before = opened() + [send(1), lose(1)] * 50 + [write(1, 2, 1, 5), calm(2)]
        self.assertEqual(after(before, send(1), party(1), tick()), [[-5], [0, 50, 50, 0, 0, 0], [0, 3, 0, 0]])

    def test_into_a_full_net_the_message_is_lost_and_all_else_happens(self):
        before = filled(40) + [write(2, 1, 1, 5)]
        self.assertEqual(after(before, send(2), party(2), lose(40), deliver(40), deliver(39)),
                         [[0, 1], [0, 1, 0, 1, 0, 0], [0], [-6], [0, 1, 1, 1, 0]])
        self.assertEqual(performed(before + [send(2)]).market.party_of(2).sent, {(1, 1): 5})


class PartyCall(unittest.TestCase):
    def test_each_number_by_itself(self):
        self.assertEqual(last(*opened(), send(1), send(1), party(1)), [0, 2, 0, 1, 0, 0])
        self.assertEqual(last(*opened(), send(1), send(1), deliver(1), deliver(2), party(1)), [0, 2, 1, 1, 0, 0])
        self.assertEqual(last(*opened(), send(1), deliver(1), deliver(1), party(1)), [0, 1, 1, 0, 0, 0])
        self.assertEqual(last(*opened(2, 1, 1), tick(), deliver(1), party(1)), [0, 0, 0, 0, 0, 1])
        late = opened(2, 1, 1) + [tick(), lose(1), lose(1), send(1), deliver(1), deliver(1)]
        self.assertEqual(last(*late, party(1)), [0, 1, 0, 0, 1, 0])

    def test_asking_changes_nothing(self):
        calls = opened() + [write(1, 2, 1, 5), send(1)]
        self.assertEqual(snapshot(performed(calls + [party(1), party(2)])), snapshot(performed(calls)))


if __name__ == "__main__":
    unittest.main()
