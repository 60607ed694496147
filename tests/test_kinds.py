"""Points 12 and 29: the order of kinds, and what they keep of a moment."""

import itertools
import unittest

from helpers import Case, as_lists
from pagesonce.kinds import kind_of, kind_rank, sample_of
from pagesonce.plans import Plan
from pagesonce.steps import House
from reference import Job, Moment, is_kind, order
from samples import COUNT_LINES, PRINTERS

PAIRS = ((0, -3), (0, -1), (0, 0), (0, 1), (0, 3), (1, 0), (1, 3))
WAYS = (None,) + PAIRS + (("told", False), ("told", True))


class Ranks(Case):
    def test_each_place(self):
        """Values of each place, in their order, all else being the same."""
        places = ((None, 0, 1, 15), PAIRS, (False, True), PAIRS, WAYS, PAIRS, (0, 1, 8), (0, 4, 5))
        for place, values in enumerate(places):
            for one, other in itertools.combinations(values, 2):
                kinds = []
                for value in (one, other):
                    kind = [0, (0, 0), False, (0, 0), None, (0, 0), 0, 0]
                    kind[place] = value
                    kinds.append(tuple(kind))
                self.assertLess(kind_rank(kinds[0]), kind_rank(kinds[1]))
                self.assertLess(order(kinds[0]), order(kinds[1]))

    def test_earlier_places_weigh_more(self):
        least = [None, (0, -3), False, (0, -3), None, (0, -3), 0, 0]
        most = [15, (1, 3), True, (1, 3), ("told", True), (1, 3), 8, 5]
        for place in range(8):
            one = tuple(least[:place + 1] + most[place + 1:])
            other = tuple(least[:place] + most[place:place + 1] + least[place + 1:])
            self.assertLess(kind_rank(one), kind_rank(other))


class Kinds(Case):
    def test_kinds_of_moments(self):
        for at, note, sheet, lying, last, left in itertools.product(
                (0, 2, 3, 6), (0, 1, 4, 5), (1, 3, 4, 7), (0, 3, 5, 8), range(9), range(6)):
            now = Moment(2, at, True, note, sheet, last, lying)
            wanted = Job(PRINTERS[4], Plan(COUNT_LINES), "once", last + left).kind(now)
            self.assertSame(kind_of((tuple(now), left)), wanted)

    def test_way_without_a_sheet(self):
        for way in (None, ("told", True), ("told", False)):
            kind = kind_of(((None, 1, True, 0, way, 8, 8), 0))
            self.assertSame(kind, (None, (1, 1), True, (1, 0), way, (0, 0), 8, 0))

    def test_samples_of_kinds(self):
        house = House(PRINTERS[4], Plan(COUNT_LINES))
        for at, note, way, lying, small, left in itertools.product(
                PAIRS, PAIRS[:3], WAYS, PAIRS[2:], (0, 3, 4, 7, 8), (0, 5)):
            kind = (2, at, True, note, way, lying, small, left)
            sample = sample_of(house, kind)
            self.assertIs(sample is not None, is_kind(Plan(COUNT_LINES), kind))
            if sample is not None:
                self.assertSame(kind_of(sample), kind)
                self.assertSame(sample_of(house, as_lists(kind)), sample)


if __name__ == "__main__":
    unittest.main()
