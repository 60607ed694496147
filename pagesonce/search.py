"""The kinds of moments that come about, the nearest first."""

from pagesonce.kinds import first_samples, next_samples
from pagesonce.runs import stretch
from pagesonce.steps import open_choices, rises


class Search:
    """The samples come to so far without a break, each with the way to it.

    origins: by sample, (the one ahead of it or None, the choice, how often
    last has risen). fault: the first (sample, choice) met that breaks the
    promise at once. ending: the samples whose runs are known to end or break.
    """

    def __init__(self, house, promise):
        self.house = house
        self.promise = promise
        self.origins = {}
        self.fault = None
        self.ending = {}

    def first_layer(self):
        """The samples that are come to by no choice."""
        layer = first_samples()
        for sample in layer:
            self.origins[sample] = (None, None, 0)
        return layer

    def next_layer(self, layer):
        """The samples that are first come to by one choice more than a layer."""
        following = []
        for sample in layer:
            for choice in open_choices(self.house, sample[0]):
                nexts = next_samples(self.house, self.promise, sample, choice)
                if not nexts and self.fault is None:
                    self.fault = (sample, choice)
                following.extend(self._new_ones(nexts, sample, choice))
        return following

    def _new_ones(self, nexts, sample, choice):
        risen = self.origins[sample][2]
        if rises(sample[0], choice):
            risen = risen + 1
        new = [one for one in nexts if one not in self.origins]
        for one in new:
            self.origins[one] = (sample, choice, risen)
        return new

    def course_to(self, sample):
        """A shortest course to a sample."""
        course = []
        before, choice, _ = self.origins[sample]
        while before is not None:
            course.append(choice)
            before, choice, _ = self.origins[before]
        return tuple(reversed(course))

    def pages_at(self, sample):
        """A number of pages with which the course leads to a sample."""
        return self.origins[sample][2] + sample[1]

    def endless_pages(self, sample):
        """A number of pages with which the run from a sample never ends, or None.

        The run: only the house goes on, or, if it cannot, the sheet comes to lie.
        """
        waiting = [(sample, self.origins[sample][2])]
        while waiting:
            head, risen = waiting.pop()
            if head not in self.ending:
                passed, heads = stretch(self.house, self.promise, head, self.ending)
                if heads is None:
                    return risen + head[1]
                for one in passed:
                    self.ending[one] = True
                waiting.extend([(one, risen + 1) for one in heads])
        return None
