"""Point 3's interface: the bounds."""

import unittest

from recutkeys import bounds
from tests.samples import assert_same

BOUNDS = {
    "MOST_PLACES": 12,
    "MOST_WATCHED": 2,
    "MOST_ROOMS": 8,
    "MOST_DOORS": 24,
    "MOST_ROWS": 400,
    "MOST_LOTS": 6,
    "MOST_SPOTS": 2000,
}


class BoundsTest(unittest.TestCase):
    def test_each_bound(self):
        for name, bound in BOUNDS.items():
            assert_same(self, getattr(bounds, name), bound)


if __name__ == "__main__":
    unittest.main()
