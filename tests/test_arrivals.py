"""What comes of each kind of message that arrives."""

import unittest

from tests.helper import (
    after, calm, deliver, double, filled, in_net, in_net_short, last, lose, open_, opened, party, performed, run, send,
    tick, write,
)


def books(calls, number=1):
    account = performed(calls).market.account_of(number)
    return (account.version, account.sheet, account.seen)


class SheetArrives(unittest.TestCase):
    TWO_SENT = opened() + [write(1, 2, 1, 5), send(1), write(1, 2, 1, 6), send(1)]

    def test_the_house_holds_it_and_says_so(self):
        calls = opened() + [write(1, 2, 1, 5), send(1), deliver(1)]
        self.assertEqual(run(*calls)[-1], [0, 1, 1, 1, 1])
        self.assertEqual(books(calls), (1, {(2, 1): 5}, False))
        self.assertEqual(in_net(calls), [(2, 1, 1, {})])

    def test_the_answer_goes_behind_all_others(self):
        calls = opened() + [send(1), send(2), send(3), deliver(2)]
        self.assertEqual(in_net_short(calls), [(1, 1, 1), (1, 3, 1), (2, 2, 1)])

    def test_only_that_party_is_touched(self):
        calls = opened() + [write(2, 1, 1, 5), send(2), deliver(1)]
        self.assertEqual([books(calls, number)[0] for number in (1, 2, 3, 4)], [0, 1, 0, 0])

    def test_a_greater_version_takes_the_place(self):
        calls = self.TWO_SENT + [deliver(1), deliver(1)]
        self.assertEqual(books(calls), (2, {(2, 1): 6}, False))
        self.assertEqual(in_net_short(calls), [(2, 1, 1), (2, 1, 2)])

    def test_a_version_may_be_left_out(self):
        calls = self.TWO_SENT + [lose(1), deliver(1)]
        self.assertEqual(books(calls), (2, {(2, 1): 6}, False))

    def test_a_lesser_version_changes_nothing_and_is_acknowledged_as_itself(self):
        calls = self.TWO_SENT + [deliver(2), deliver(1)]
        self.assertEqual(books(calls), (2, {(2, 1): 6}, False))
        self.assertEqual(in_net_short(calls), [(2, 1, 2), (2, 1, 1)])

    def test_the_same_version_changes_nothing_and_is_acknowledged_again(self):
        calls = opened() + [write(1, 2, 1, 5), send(1), double(1), deliver(1), deliver(1)]
        self.assertEqual(books(calls), (1, {(2, 1): 5}, False))
        self.assertEqual(in_net_short(calls), [(2, 1, 1), (2, 1, 1)])

    def test_closed_books_and_a_greater_version(self):
        calls = opened(2, 1, 1) + [write(1, 2, 1, 5), send(1), tick(), deliver(1)]
        self.assertEqual(books(calls), (0, {}, False))
        self.assertEqual(in_net_short(calls)[-1], (3, 1, 1))

    def test_closed_books_and_a_greater_version_than_one_held(self):
        calls = opened(2, 1, 1) + [write(1, 2, 1, 5), send(1), deliver(1), write(1, 2, 1, 6), send(1), tick(),
                                   deliver(2)]
        self.assertEqual(run(*calls)[-1], [0, 1, 1, 2, 1])
        self.assertEqual(books(calls), (1, {(2, 1): 5}, False))
        self.assertEqual(in_net_short(calls)[-1], (3, 1, 2))

    def test_closed_books_and_the_version_held(self):
        calls = opened(2, 1, 1) + [send(1), double(1), deliver(1), tick(), deliver(1)]
        self.assertEqual(run(*calls)[-1], [0, 1, 1, 1, 0])
        self.assertEqual(in_net_short(calls)[-1], (2, 1, 1))

    def test_closed_books_and_a_lesser_version(self):
        calls = opened(2, 1, 1) + [send(1), send(1), deliver(2), tick(), deliver(1)]
        self.assertEqual(run(*calls)[-1], [0, 1, 1, 1, 0])
        self.assertEqual(in_net_short(calls)[-1], (2, 1, 1))
        self.assertEqual(books(calls)[0], 2)

    def test_the_house_holds_what_the_message_says_and_not_what_was_sent_since(self):
        calls = self.TWO_SENT + [write(1, 3, 1, 9), deliver(1)]
        self.assertEqual(books(calls), (1, {(2, 1): 5}, False))


class AcknowledgementArrives(unittest.TestCase):
    def test_for_the_version_of_the_party(self):
        calls = opened() + [send(1), deliver(1)]
        self.assertEqual(after(calls, party(1), deliver(1), party(1), deliver(1)),
                         [[0, 1, 0, 1, 0, 0], [0, 2, 1, 1, 0], [0, 1, 1, 0, 0, 0], [-6]])

    def test_for_an_older_version(self):
        calls = opened() + [send(1), deliver(1), send(1)]
        self.assertEqual(after(calls, deliver(1), party(1)), [[0, 2, 1, 1, 0], [0, 2, 1, 1, 0, 0]])

    def test_a_newer_one_and_then_an_older_one(self):
        calls = opened() + [send(1), deliver(1), send(1), deliver(2)]
        self.assertEqual(after(calls, deliver(2), party(1), deliver(1), party(1)),
                         [[0, 2, 1, 2, 0], [0, 2, 2, 0, 0, 0], [0, 2, 1, 1, 0], [0, 2, 2, 0, 0, 0]])

    def test_an_older_one_and_then_a_newer_one(self):
        calls = opened() + [send(1), deliver(1), send(1), deliver(2)]
        self.assertEqual(after(calls, deliver(1), party(1), deliver(1), party(1)),
                         [[0, 2, 1, 1, 0], [0, 2, 1, 1, 0, 0], [0, 2, 1, 2, 0], [0, 2, 2, 0, 0, 0]])

    def test_an_older_one_between_leaves_the_greatest(self):
        calls = opened() + [send(1), send(1), send(1), deliver(1), deliver(1), lose(1), deliver(2), party(1),
                            deliver(1), party(1)]
        self.assertEqual(run(*calls)[-4:],
                         [[0, 2, 1, 2, 0], [0, 3, 2, 1, 0, 0], [0, 2, 1, 1, 0], [0, 3, 2, 1, 0, 0]])

    def test_doubled_it_does_the_same_once_more(self):
        calls = opened() + [send(1), deliver(1), double(1), deliver(1)]
        self.assertEqual(after(calls, party(1), deliver(1), party(1)),
                         [[0, 1, 1, 0, 0, 0], [0, 2, 1, 1, 0], [0, 1, 1, 0, 0, 0]])

    def test_only_that_party_is_touched(self):
        calls = opened() + [send(1), send(2), deliver(2), deliver(2)]
        self.assertEqual(after(calls, party(1), party(2)), [[0, 1, 0, 1, 0, 0], [0, 1, 1, 0, 0, 0]])

    def test_it_leaves_too_late_as_it_is(self):
        # Version 1 is held and acknowledged late, version 2 was too late.
        calls = opened(2, 1, 1) + [send(1), deliver(1), tick(), send(1), lose(3), lose(3)]
        self.assertEqual(in_net_short(calls), [(2, 1, 1), (1, 1, 1), (1, 1, 2)])
        self.assertEqual(after(calls, deliver(3), deliver(3), party(1), deliver(1), party(1)),
                         [[0, 1, 1, 2, 0], [0, 3, 1, 2, 0], [0, 2, 0, 0, 1, 0], [0, 2, 1, 1, 0], [0, 2, 1, 0, 1, 0]])


class TooLateArrives(unittest.TestCase):
    BEFORE = opened(2, 1, 1) + [send(1), tick(), lose(2), lose(2), lose(2), deliver(1)]

    def test_for_the_version_of_the_party(self):
        self.assertEqual(in_net_short(self.BEFORE), [(3, 1, 1)])
        self.assertEqual(after(self.BEFORE, party(1), deliver(1), party(1), deliver(1)),
                         [[0, 1, 0, 1, 0, 0], [0, 3, 1, 1, 0], [0, 1, 0, 0, 1, 0], [-6]])

    def test_for_another_version(self):
        self.assertEqual(after(self.BEFORE + [send(1)], deliver(1), party(1)),
                         [[0, 3, 1, 1, 0], [0, 2, 0, 1, 0, 0]])

    def test_for_another_version_when_the_party_was_too_late_already(self):
        calls = self.BEFORE + [send(1), deliver(2), deliver(2)]
        self.assertEqual(after(calls, party(1), deliver(1), party(1)),
                         [[0, 2, 0, 0, 1, 0], [0, 3, 1, 1, 0], [0, 2, 0, 0, 1, 0]])

    def test_acked_stays(self):
        calls = opened(2, 1, 1) + [send(1), deliver(1), deliver(1), tick(), lose(1), lose(1), send(1), deliver(1)]
        self.assertEqual(after(calls, party(1), deliver(1), party(1)),
                         [[0, 2, 1, 1, 0, 0], [0, 3, 1, 2, 0], [0, 2, 1, 0, 1, 0]])

    def test_only_that_party_is_touched(self):
        calls = opened(2, 1, 1) + [tick(), lose(1), lose(1), send(1), send(2), deliver(2), deliver(2)]
        self.assertEqual(after(calls, party(1), party(2)), [[0, 1, 0, 1, 0, 0], [0, 1, 0, 0, 1, 0]])

    def test_then_a_tick_posts_no_more_for_the_party(self):
        self.assertEqual(in_net_short(self.BEFORE + [deliver(1), tick()]), [(4, 1, 0), (4, 2, 0)])


class MatchedArrives(unittest.TestCase):
    BEFORE = [open_(2, 2, 1), write(1, 2, 1, 5), write(2, 1, 1, -7), write(1, 2, 2, 3), send(1), send(2),
              deliver(1), deliver(1), deliver(1), deliver(1), tick()]

    def test_the_party_believes_it_and_says_so(self):
        self.assertEqual(after(self.BEFORE, party(1), deliver(1), party(1), party(2)),
                         [[0, 1, 1, 0, 0, 0], [0, 4, 1, 0, 1], [0, 1, 1, 0, 0, 1], [0, 1, 1, 0, 0, 0]])
        calls = self.BEFORE + [deliver(1)]
        self.assertEqual(performed(calls).market.party_of(1).belief, {(2, 1): 5})
        self.assertEqual(in_net(calls), [(4, 2, 0, {(1, 1): -5}), (5, 1, 0, {})])

    def test_each_party_believes_its_own(self):
        market = performed(self.BEFORE + [deliver(2), deliver(1)]).market
        self.assertEqual([market.party_of(number).belief for number in (1, 2)], [{(2, 1): 5}, {(1, 1): -5}])

    def test_a_second_one_is_answered_again(self):
        calls = self.BEFORE + [double(1), deliver(1), deliver(2)]
        self.assertEqual(in_net_short(calls), [(4, 2, 0), (5, 1, 0), (5, 1, 0)])
        self.assertEqual(last(*calls, party(1)), [0, 1, 1, 0, 0, 1])

    def test_nothing_matched_is_believed_too(self):
        calls = opened(3, 1, 1) + [tick()]
        self.assertEqual(after(calls, deliver(3), party(3), party(1)),
                         [[0, 4, 3, 0, 0], [0, 0, 0, 0, 0, 1], [0, 0, 0, 0, 0, 0]])
        self.assertEqual(performed(calls + [deliver(3)]).market.party_of(3).belief, {})

    def test_waiting_and_versions_stay(self):
        calls = opened(2, 1, 1) + [send(1), tick()]
        self.assertEqual(in_net_short(calls), [(1, 1, 1), (1, 1, 1), (4, 1, 0), (4, 2, 0)])
        self.assertEqual(after(calls, deliver(3), party(1)), [[0, 4, 1, 0, 0], [0, 1, 0, 1, 0, 1]])

    def test_it_is_not_seen_before_the_answer_arrives(self):
        self.assertEqual(books(self.BEFORE + [deliver(1)])[2], False)

    def test_the_belief_stays_when_the_party_sends_again(self):
        calls = self.BEFORE + [deliver(1), send(1), calm(2)]
        self.assertEqual(last(*calls, party(1)), [0, 2, 1, 0, 1, 1])
        self.assertEqual(performed(calls).market.party_of(1).belief, {(2, 1): 5})


class SeenArrives(unittest.TestCase):
    BEFORE = opened(3, 1, 1) + [tick(), deliver(2), deliver(3)]

    def test_the_confirmation_was_seen_by_that_party(self):
        self.assertEqual(run(*self.BEFORE)[-1], [0, 5, 2, 0, 0])
        self.assertEqual([books(self.BEFORE, number)[2] for number in (1, 2, 3)], [False, True, False])

    def test_nothing_is_posted_for_it(self):
        self.assertEqual(in_net_short(self.BEFORE), [(4, 1, 0), (4, 3, 0)])

    def test_a_second_one_changes_nothing(self):
        calls = opened(2, 1, 1) + [tick(), deliver(1), double(2), deliver(2), deliver(2)]
        self.assertEqual(run(*calls)[-2:], [[0, 5, 1, 0, 0], [0, 5, 1, 0, 0]])
        self.assertEqual(books(calls), (0, {}, True))
        self.assertEqual(in_net_short(calls), [(4, 2, 0)])

    def test_the_party_itself_is_untouched(self):
        calls = opened(2, 1, 1) + [send(1), tick(), deliver(3)]
        self.assertEqual(after(calls, deliver(4), party(1)), [[0, 5, 1, 0, 0], [0, 1, 0, 1, 0, 1]])


class RoomForAnAnswer(unittest.TestCase):
    def test_the_answer_to_one_of_40_has_its_place(self):
        calls = filled(40) + [deliver(1)]
        self.assertEqual(in_net_short(calls), [(1, 1, 1)] * 39 + [(2, 1, 1)])

    def test_the_message_5_for_one_of_40_has_its_place(self):
        calls = opened(2, 1, 1) + [tick()] * 20 + [deliver(40)]
        self.assertEqual(in_net_short(calls)[-2:], [(4, 1, 0), (5, 2, 0)])
        self.assertEqual(len(in_net_short(calls)), 40)


if __name__ == "__main__":
    unittest.main()
