"""Many lines of calls, answered by the program and by the model apart from it."""

import unittest

from tests.model import Model
from tests.shifts import whole_line
from tests.tools import play


class AsTheModel(unittest.TestCase):
    def test_lines_of_all_calls(self):
        kinds = {}
        for seed in range(300):
            calls = whole_line(seed)
            model = Model()
            found = play(*calls)
            for k, call in enumerate(calls):
                self.assertEqual(found[k], model.ask(call), (seed, k, call))
                kinds[call[0], min(found[k][0], 0)] = True
        for call in range(18):
            self.assertIn((call, 0), kinds)
            if call not in (10, 11, 17):
                self.assertIn((call, -1), kinds)
        for refusal in ((1, -2), (1, -3), (2, -2), (2, -5), (4, -2), (4, -8), (9, -2), (12, -2), (13, -7), (16, -6)):
            self.assertIn(refusal, kinds)


if __name__ == "__main__":
    unittest.main()
