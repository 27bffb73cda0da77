"""house and held, by what arrived and in which order; now."""

import unittest

from tests.helper import (
    after, arrived, calm, deliver, double, filled, held, house, last, lose, now, open_, opened, run, send, tick, write,
)

EVERYBODY = [house(1), house(2), house(3), house(4)]


class HouseVersion(unittest.TestCase):
    TWO_SENT = opened() + [write(1, 2, 1, 5), send(1), write(1, 2, 1, 6), write(1, 3, 1, 7), send(1)]

    def test_at_first(self):
        self.assertEqual(after(opened(), *EVERYBODY), [[0, 0, 0]] * 4)

    def test_what_is_under_way_is_not_held(self):
        self.assertEqual(after(self.TWO_SENT, house(1), held(1)), [[0, 0, 0], [0]])

    def test_what_arrived(self):
        self.assertEqual(after(self.TWO_SENT, deliver(1), house(1), held(1), deliver(1), house(1), held(1)),
                         [[0, 1, 1, 1, 1], [0, 1, 0], [0, 2, 1, 5], [0, 1, 1, 2, 2], [0, 2, 0],
                          [0, 2, 1, 6, 3, 1, 7]])

    def test_each_party_by_itself(self):
        calls = opened() + [send(3), send(3), send(2), deliver(2), deliver(2)]
        self.assertEqual(after(calls, *EVERYBODY), [[0, 0, 0], [0, 1, 0], [0, 2, 0], [0, 0, 0]])

    def test_an_older_version_behind_a_newer_one(self):
        calls = self.TWO_SENT + [deliver(2)]
        newer = [[0, 2, 0], [0, 2, 1, 6, 3, 1, 7]]
        self.assertEqual(after(calls, house(1), held(1)), newer)
        self.assertEqual(after(calls + [deliver(1)], house(1), held(1)), newer)
        self.assertEqual(after(calls + [deliver(1), deliver(1), deliver(1)], house(1), held(1)), newer)

    def test_an_older_version_behind_one_much_newer(self):
        calls = opened() + [write(1, 2, 1, 5)] + [send(1)] * 9 + [write(1, 2, 1, 6), send(1), deliver(10)]
        self.assertEqual(after(calls, house(1), held(1)), [[0, 10, 0], [0, 2, 1, 6]])
        for place in range(1, 10):
            self.assertEqual(after(calls, deliver(place), house(1), held(1)),
                             [[0, 1, 1, place, 1], [0, 10, 0], [0, 2, 1, 6]])

    def test_a_doubled_one(self):
        calls = self.TWO_SENT + [double(1), double(2), deliver(1)]
        self.assertEqual(after(calls, house(1), held(1)), [[0, 1, 0], [0, 2, 1, 5]])
        self.assertEqual(after(calls + [deliver(2)], house(1), held(1)), [[0, 1, 0], [0, 2, 1, 5]])
        self.assertEqual(after(calls + [deliver(1), deliver(1), deliver(1)], house(1), held(1)),
                         [[0, 2, 0], [0, 2, 1, 6, 3, 1, 7]])

    def test_one_that_was_too_late(self):
        calls = opened(2, 1, 1) + [write(1, 2, 1, 5), send(1), tick()]
        self.assertEqual(after(calls, house(1), deliver(1), house(1), held(1)),
                         [[0, 0, 0], [0, 1, 1, 1, 1], [0, 0, 0], [0]])

    def test_one_that_was_too_late_behind_one_that_was_not(self):
        calls = opened(2, 1, 1) + [write(1, 2, 1, 5), send(1), deliver(1), write(1, 2, 1, 6), send(1), tick(),
                                   deliver(2)]
        self.assertEqual(after(calls, house(1), held(1), calm(2), house(1), held(1)),
                         [[0, 1, 0], [0, 2, 1, 5], [0, 3, 1, 0], [0, 1, 1], [0, 2, 1, 5]])

    def test_a_lost_one(self):
        self.assertEqual(after(self.TWO_SENT, lose(1), house(1), deliver(1), house(1)),
                         [[0], [0, 0, 0], [0, 1, 1, 2, 2], [0, 2, 0]])

    def test_every_version_to_the_fiftieth(self):
        calls = opened(2, 1, 100)
        for version in range(1, 51):
            calls += [send(1), deliver(1), lose(1), house(1)]
        self.assertEqual(run(*calls)[4::4], [[0, version, 0] for version in range(1, 51)])

    def test_open_begins_anew(self):
        calls = arrived((1, 2, 1, 5), gate=1) + [calm(2)]
        self.assertEqual(after(calls, house(1), open_(2, 1, 1), house(1), held(1)), [[0, 1, 1], [0], [0, 0, 0], [0]])


class HouseSeen(unittest.TestCase):
    CLOSED = opened(3, 1, 1) + [tick()]

    def test_not_when_the_confirmation_is_posted_and_not_when_it_is_believed(self):
        self.assertEqual(after(self.CLOSED, house(2), deliver(2), house(2)), [[0, 0, 0], [0, 4, 2, 0, 0], [0, 0, 0]])

    def test_when_the_party_s_word_arrives(self):
        self.assertEqual(after(self.CLOSED + [deliver(2), deliver(3)], *EVERYBODY),
                         [[0, 0, 0], [0, 0, 1], [0, 0, 0], [-3]])

    def test_not_when_that_word_is_lost(self):
        calls = self.CLOSED + [deliver(2), lose(3)]
        self.assertEqual(after(calls, house(2), calm(1), house(2)), [[0, 0, 0], [0, 2, 1, 1], [0, 0, 0]])
        self.assertEqual(after(calls, calm(2), house(2)), [[0, 3, 1, 0], [0, 0, 1]])

    def test_it_stays_seen(self):
        calls = self.CLOSED + [deliver(2), double(3), deliver(3)]
        self.assertEqual(after(calls, house(2), deliver(3), house(2), send(2), tick(), calm(5), house(2)),
                         [[0, 0, 1], [0, 5, 2, 0, 0], [0, 0, 1], [0, 1], [0, 2, 1, 6], [0, 7, 1, 0], [0, 0, 1]])

    def test_beside_the_version(self):
        calls = arrived((1, 2, 1, 5), parties=2, quarters=1, gate=1) + [send(2), deliver(1), tick()]
        self.assertEqual(after(calls, house(1), house(2), calm(1), house(1), house(2)),
                         [[0, 1, 0], [0, 2, 0], [0, 2, 1, 0], [0, 1, 1], [0, 2, 1]])

    def test_everybody_s(self):
        self.assertEqual(after(opened(4, 3, 1) + [calm(2)], *EVERYBODY), [[0, 0, 1]] * 4)

    def test_nobody_s_before_the_gate(self):
        self.assertEqual(after(opened(4, 3, 6) + [send(1), calm(5)], *EVERYBODY), [[0, 1, 0]] + [[0, 0, 0]] * 3)


class Now(unittest.TestCase):
    def test_at_time_0(self):
        for gate in (1, 2, 100):
            self.assertEqual(last(*opened(4, 3, gate), now()), [0, 0, 0])

    def test_before_the_gate_at_it_and_after_it(self):
        for gate in (1, 2, 3, 7, 100):
            calls = opened(2, 1, gate)
            for time in range(1, gate + 3):
                calls += [tick(), now()]
            given = run(*calls)[2::2]
            expected = [[0, time, 1 if time >= gate else 0] for time in range(1, gate + 3)]
            self.assertEqual(given, expected)

    def test_calm_moves_it_on(self):
        for gate in (1, 3, 5, 6):
            for rounds in (1, 2, 3, 4, 5):
                self.assertEqual(last(*opened(2, 1, gate), calm(rounds), now()),
                                 [0, rounds, 1 if rounds >= gate else 0])

    def test_no_other_call_moves_it_on(self):
        calls = opened(2, 1, 2) + [tick(), write(1, 2, 1, 5), send(1), double(1), deliver(1), lose(1)]
        self.assertEqual(after(calls, now(), now(), tick(), now()), [[0, 1, 0], [0, 1, 0], [0, 2, 1, 4], [0, 2, 1]])

    def test_a_full_net_does_not_hold_it_up(self):
        self.assertEqual(after(filled(40, 2, 1, 2), tick(), now(), tick(), now()),
                         [[0, 1, 0, 40], [0, 1, 0], [0, 2, 1, 40], [0, 2, 1]])

    def test_open_puts_it_back(self):
        calls = opened(2, 1, 1) + [calm(5)]
        self.assertEqual(after(calls, now(), open_(2, 1, 1), now(), open_(5, 1, 1), tick(), now()),
                         [[0, 5, 1], [0], [0, 0, 0], [-1], [0, 1, 1, 2], [0, 1, 1]])

    def test_a_long_time(self):
        self.assertEqual(last(*opened(2, 1, 100), *[calm(5)] * 398, now()), [0, 1990, 1])


if __name__ == "__main__":
    unittest.main()
