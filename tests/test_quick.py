"""How long the largest field takes: points 8 and 9, for all blocks within their bounds."""

import unittest
from time import process_time

from wheresay.lines import led

LARGEST = {"a": (-30, -30, 1, 1), "b": (30, 30, 20, 20)}
# So many times as long as the plain work each asking may take. It is 3 to 5 times; before each point and triple had
# a number, in a list of them all, it was 17 to 21 times.
MOST = 10
ROUNDS = 7


def plain_work():
    """Tell a dict of about as many triples as the largest field has."""
    return {(across, down, heading): (across, down)
            for across in range(83) for down in range(83) for heading in ("right", "down", "left", "up")}


def taken_by(work):
    begun = process_time()
    work()
    return process_time() - begun


class Quick(unittest.TestCase):
    def test_the_largest_field(self):
        told = led(LARGEST, "a", "b")
        works = (plain_work, lambda: led(LARGEST, "a", "b"), lambda: told.shows(LARGEST, "a", "b"))
        # The least of some rounds, each beside the plain work: so neither a slow nor a busy machine counts much.
        rounds = [[taken_by(work) for work in works] for _ in range(ROUNDS)]
        plain, leading, showing = [min(row) for row in zip(*rounds)]
        for asking, least in (("led", leading), ("shows", showing)):
            with self.subTest(asking):
                self.assertLess(least, MOST * plain)


if __name__ == "__main__":
    unittest.main()
