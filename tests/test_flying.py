"""flying: the messages in the net, in order; deliver answers a message in the same words."""

import unittest

from tests.helper import (
    after, arrived, calm, clear, deliver, double, filled, flying, last, lose, open_, opened, send, tick, write,
)


def flown(calls):
    """The messages that flying answers, four numbers each."""
    given = last(*calls, flying())
    if given[0] != 0 or len(given) % 4 != 1:
        raise AssertionError(f"{given} is not 0 and then four numbers for each message")
    return [tuple(given[place:place + 4]) for place in range(1, len(given), 4)]


class Kinds(unittest.TestCase):
    def test_an_empty_net(self):
        self.assertEqual(last(*opened(), flying()), [0])
        self.assertEqual(last(*opened(), write(1, 2, 1, 5), flying()), [0])
        self.assertEqual(last(*opened(), send(1), lose(1), flying()), [0])
        self.assertEqual(last(*opened(), send(1), deliver(1), deliver(1), flying()), [0])

    def test_a_party_s_sheet(self):
        calls = opened() + [write(2, 1, 1, 5), write(2, 3, 1, -5), send(2)]
        self.assertEqual(last(*calls, flying()), [0, 1, 2, 1, 2])

    def test_an_acknowledgement(self):
        calls = opened() + [write(2, 1, 1, 5), send(2), send(2), deliver(2), lose(1)]
        self.assertEqual(last(*calls, flying()), [0, 2, 2, 2, 0])

    def test_too_late(self):
        calls = opened(2, 1, 1) + [tick(), lose(1), lose(1), write(2, 1, 1, 5), send(2), send(2), deliver(2), lose(1)]
        self.assertEqual(last(*calls, flying()), [0, 3, 2, 2, 0])

    def test_what_was_matched(self):
        calls = arrived((1, 2, 1, 5), (2, 1, 1, -7), (1, 2, 2, 5), (2, 1, 2, -5), (1, 3, 3, 5), gate=1) + [tick()]
        self.assertEqual(flown(calls), [(4, 1, 0, 2), (4, 2, 0, 2), (4, 3, 0, 0), (4, 4, 0, 0)])

    def test_it_was_seen(self):
        calls = arrived((1, 2, 1, 5), (2, 1, 1, -7), parties=2, gate=1) + [tick(), deliver(2), lose(1)]
        self.assertEqual(last(*calls, flying()), [0, 5, 2, 0, 0])

    def test_all_five_at_once(self):
        calls = opened(2, 3, 1) + [write(1, 2, 1, 5), write(1, 2, 2, 6), write(1, 2, 3, 7), write(2, 1, 1, -5),
                                   write(2, 1, 3, -5), send(1), send(2), deliver(1), deliver(1), tick(), send(1),
                                   send(1)]
        self.assertEqual(flown(calls), [(2, 1, 1, 0), (2, 2, 1, 0), (1, 1, 1, 3), (1, 2, 1, 2), (4, 1, 0, 2),
                                        (4, 2, 0, 2), (1, 1, 2, 3), (1, 1, 3, 3)])
        calls += [deliver(7), deliver(6), lose(2)]
        self.assertEqual(flown(calls), [(2, 1, 1, 0), (1, 1, 1, 3), (1, 2, 1, 2), (4, 1, 0, 2), (1, 1, 3, 3),
                                        (3, 1, 2, 0), (5, 2, 0, 0)])


class Rows(unittest.TestCase):
    def test_each_count_of_rows(self):
        rows = [(other, quarter) for other in (2, 3, 4) for quarter in (1, 2, 3)]
        calls = opened() + [send(1)]
        for other, quarter in rows:
            calls += [write(1, other, quarter, other - 3 or 9), send(1)]
        self.assertEqual(flown(calls), [(1, 1, version, version - 1) for version in range(1, 11)])

    def test_each_count_of_matched_rows(self):
        rows = [(other, quarter) for other in (2, 3, 4) for quarter in (1, 2, 3)]
        for count in range(10):
            writes = [(1, other, quarter, 5) for other, quarter in rows]
            writes += [(other, 1, quarter, -5) for other, quarter in rows[:count]]
            self.assertEqual(flown(arrived(*writes, gate=1) + [tick()])[0], (4, 1, 0, count))

    def test_as_they_were_when_the_sheet_was_sent(self):
        before = opened() + [write(1, 2, 1, 5), write(1, 3, 2, 6), send(1)]
        for change in ([write(1, 2, 1, 0)], [write(1, 4, 3, 7)], [clear(1)], [clear(1), write(1, 2, 1, 1)],
                       [write(1, 2, 1, 9)]):
            with self.subTest(change=change):
                self.assertEqual(flown(before + change), [(1, 1, 1, 2)])
                self.assertEqual(flown(before + change + [double(1)]), [(1, 1, 1, 2)] * 2)
                # A tick posts what was sent last once more, and not the draft.
                self.assertEqual(flown(before + change + [tick()]), [(1, 1, 1, 2)] * 2)

    def test_each_version_with_its_own(self):
        calls = opened() + [write(1, 2, 1, 5), send(1), write(1, 3, 2, 6), send(1), clear(1), send(1), tick()]
        self.assertEqual(flown(calls), [(1, 1, 1, 1), (1, 1, 2, 2), (1, 1, 3, 0), (1, 1, 3, 0)])

    def test_an_amount_written_over_with_0_is_not_counted(self):
        calls = opened() + [write(1, 2, 1, 5), write(1, 2, 2, 5), write(1, 2, 1, 0), write(1, 4, 1, 0), send(1)]
        self.assertEqual(flown(calls), [(1, 1, 1, 1)])

    def test_the_acknowledgement_of_a_sheet_with_rows_has_none(self):
        calls = opened() + [write(1, 2, 1, 5), send(1), deliver(1)]
        self.assertEqual(flown(calls), [(2, 1, 1, 0)])


class InOrder(unittest.TestCase):
    FOUR = opened() + [write(3, 1, 1, 5), send(3), send(1), send(4), send(2)]
    SHOWN = [(1, 3, 1, 1), (1, 1, 1, 0), (1, 4, 1, 0), (1, 2, 1, 0)]

    def test_one_behind_the_other(self):
        self.assertEqual(flown(self.FOUR), self.SHOWN)

    def test_after_lose(self):
        for place in range(4):
            self.assertEqual(flown(self.FOUR + [lose(place + 1)]), self.SHOWN[:place] + self.SHOWN[place + 1:])

    def test_after_double(self):
        for place in range(4):
            self.assertEqual(flown(self.FOUR + [double(place + 1)]), self.SHOWN + [self.SHOWN[place]])

    def test_after_lose_and_double_in_turn(self):
        first, second, third, fourth = self.SHOWN
        self.assertEqual(flown(self.FOUR + [double(2), lose(2)]), [first, third, fourth, second])
        self.assertEqual(flown(self.FOUR + [lose(2), double(2)]), [first, third, fourth, third])
        self.assertEqual(flown(self.FOUR + [double(1), double(5), lose(1), lose(2)]), [second, fourth, first, first])

    def test_after_deliver(self):
        for place, message in enumerate(self.SHOWN):
            left = self.SHOWN[:place] + self.SHOWN[place + 1:]
            self.assertEqual(flown(self.FOUR + [deliver(place + 1)]), left + [(2, message[1], 1, 0)])

    def test_after_a_tick(self):
        calls = opened(3, 1, 1) + [send(3), send(1), tick()]
        self.assertEqual(flown(calls), [(1, 3, 1, 0), (1, 1, 1, 0), (1, 1, 1, 0), (1, 3, 1, 0), (4, 1, 0, 0),
                                        (4, 2, 0, 0), (4, 3, 0, 0)])

    def test_after_a_calm(self):
        self.assertEqual(flown(opened(3, 1, 2) + [send(1), calm(1)]), [])
        self.assertEqual(flown(opened(3, 1, 1) + [send(1), calm(1)]), [(4, 1, 0, 0), (4, 2, 0, 0), (4, 3, 0, 0)])

    def test_after_open(self):
        self.assertEqual(flown(self.FOUR + [open_(2, 1, 1)]), [])


class Forty(unittest.TestCase):
    def test_a_net_of_40(self):
        self.assertEqual(flown(filled(40)), [(1, 1, 1, 0)] * 40)
        calls = opened() + [send(1)] * 40
        self.assertEqual(flown(calls), [(1, 1, version, 0) for version in range(1, 41)])

    def test_what_has_no_room_is_not_shown(self):
        calls = opened() + [send(1)] * 40
        for more in ([send(1)], [send(2)], [tick()], [double(40)]):
            self.assertEqual(flown(calls + more), [(1, 1, version, 0) for version in range(1, 41)])

    def test_39_and_one_more(self):
        self.assertEqual(flown(filled(39)), [(1, 1, 1, 0)] * 39)
        self.assertEqual(flown(filled(39) + [send(4), send(3)]), [(1, 1, 1, 0)] * 39 + [(1, 4, 1, 0)])

    def test_room_is_used_again(self):
        calls = filled(40) + [lose(40), send(2), lose(1), send(3)]
        self.assertEqual(flown(calls), [(1, 1, 1, 0)] * 38 + [(1, 2, 1, 0), (1, 3, 1, 0)])

    def test_every_kind_in_a_net_of_40(self):
        calls = opened(4, 1, 1) + [tick()] * 10
        self.assertEqual(flown(calls), [(4, 1, 0, 0), (4, 2, 0, 0), (4, 3, 0, 0), (4, 4, 0, 0)] * 10)
        self.assertEqual(flown(calls + [deliver(2)])[-3:], [(4, 3, 0, 0), (4, 4, 0, 0), (5, 2, 0, 0)])


class AsDelivered(unittest.TestCase):
    STATES = [
        InOrder.FOUR,
        filled(40),
        opened() + [send(1)] * 45,
        arrived((1, 2, 1, 5), (2, 1, 1, -7), (1, 2, 2, 4), gate=1) + [tick(), deliver(3), send(1), deliver(4), tick()],
    ]

    def test_each_message_is_delivered_as_it_was_shown(self):
        for calls in self.STATES:
            for place, message in enumerate(flown(calls)):
                self.assertEqual(last(*calls, deliver(place + 1)), [0] + list(message))
            self.assertEqual(last(*calls, deliver(len(flown(calls)) + 1))[0], -1 if len(flown(calls)) == 40 else -6)

    def test_what_tick_counts_is_what_flying_shows(self):
        for calls in self.STATES:
            self.assertEqual(last(*calls, tick())[3], len(flown(calls + [tick()])))

    def test_asking_takes_nothing_out(self):
        for calls in self.STATES:
            once, twice = after(calls, flying(), flying())
            self.assertEqual(once, twice)


if __name__ == "__main__":
    unittest.main()
