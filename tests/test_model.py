"""Long lists of calls, answered as the document read a second time answers them."""

import unittest

from tests.model import modelled
from tests.sessions import session
from tests.support import CallsTest, LOOK, busy, lay, probe, run, tick


class ModelTest(CallsTest):
    def compare(self, calls):
        for call, found, wanted in zip(calls, run(calls), modelled(calls)):
            self.assertEqual(found, wanted, call)

    def test_what_the_tests_use(self):
        self.compare(busy() + probe())

    def test_short_sessions(self):
        for seed in range(300):
            with self.subTest(seed=seed):
                self.compare(session(seed, 40))

    def test_long_sessions(self):
        for seed in range(1000, 1012):
            with self.subTest(seed=seed):
                self.compare(session(seed, 400))

    def test_the_sessions_show_what_they_are_for(self):
        # A random list that never lets fluid through, or never refuses, would test little.
        calls = [call for seed in range(300) for call in session(seed, 40)]
        found = [answer for seed in range(300) for answer in run(session(seed, 40))]
        for refusal in (-100, -1, -2, -3):
            self.assertGreater(found.count([refusal]), 10, refusal)
        looks = [answer for call, answer in zip(calls, found) if call == LOOK and len(answer) == 12]
        for at in range(12):
            self.assertGreater(sum(answer[at] != 0 for answer in looks), 10, at)
        ticks = [answer for call, answer in zip(calls, found) if call[0] == 8 and len(answer) > 5]
        self.assertGreater(sum(answer[5] > 0 for answer in ticks), 100)
        self.assertGreater(sum(answer[5] == 0 for answer in ticks), 100)

    def test_many_ticks(self):
        self.compare(busy() + [tick(200)] * 20 + probe() + [lay(32, 0, 32, 1000000)] + [tick(200)] * 5 + probe())


if __name__ == "__main__":
    unittest.main()
