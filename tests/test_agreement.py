"""The machine and the rules tell the same: a whole tale has no ring of edges just where some run has it."""

import unittest

from latewrite.tales import outcome_of
from latewrite.texts import read

from helping import SLACKS, TEXTS, ends_of, has_order, whole_tales


class Agreement(unittest.TestCase):
    def test_tales_and_outcomes(self):
        for text in TEXTS:
            program = read(text)
            whole = [(tale, outcome_of(program, tale)) for tale in whole_tales(program)]
            for slack in SLACKS:
                with self.subTest(text=text, slack=slack):
                    wanted = {repr(tale): outcome for tale, outcome in whole if has_order(program, tale, slack)}
                    self.assertEqual(ends_of(program, slack), wanted)

    def test_less_slack_adds_no_tale(self):
        for text in TEXTS:
            with self.subTest(text):
                at_once, late, loose = [set(ends_of(read(text), slack)) for slack in SLACKS]
                self.assertTrue(at_once <= late <= loose)

    def test_what_may_come_late(self):
        """How many tales there are by each slack, counted by hand for the plainest programs."""
        self.assertEqual([len(ends_of(read(TEXTS[1]), slack)) for slack in SLACKS], [3, 4, 4])
        self.assertEqual([len(ends_of(read(TEXTS[5]), slack)) for slack in SLACKS], [3, 3, 4])
        self.assertEqual([len(ends_of(read(TEXTS[6]), slack)) for slack in SLACKS], [3, 3, 3])
        self.assertEqual([len(ends_of(read(TEXTS[8]), slack)) for slack in SLACKS], [3, 3, 3])
        self.assertEqual([len(ends_of(read(TEXTS[9]), slack)) for slack in SLACKS], [3, 3, 4])


if __name__ == "__main__":
    unittest.main()
