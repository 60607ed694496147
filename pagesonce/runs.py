"""The runs with nothing between, of kinds and of jobs.

In a run only the house goes on, or, where it cannot, the sheet on its way
comes to lie.
"""

from pagesonce.kinds import next_samples
from pagesonce.promises import unbroken_after
from pagesonce.steps import GO_ON, rises, run_choice

ENDED = "ended"
BROKEN = "broken"
ENDLESS = "endless"


def stretch(house, promise, sample, ending):
    """The samples of a run until last rises, and those behind that; None if one comes again.

    The run is not followed past the samples of ending.
    """
    passed = {}
    while sample not in passed:
        if sample in ending:
            return (passed, [])
        passed[sample] = True
        choice = run_choice(house, sample[0])
        nexts = [] if choice is None else next_samples(house, promise, sample, choice)
        if not nexts or rises(sample[0], choice):
            return (passed, nexts)
        sample = nexts[0]
    return (passed, None)


def run_from(house, promise, pages, moment):
    """(how the run of a job from a moment goes out, (notes, sheets, steps))."""
    notes = sheets = steps = 0
    passed = {}
    while moment not in passed:
        passed[moment] = True
        choice = run_choice(house, moment)
        if choice is None:
            return (ENDED, (notes, sheets, steps))
        steps += 1
        word = _word_done(house, moment, choice)
        if word == "note":
            notes += 1
        if word == "send":
            sheets += 1
        if rises(moment, choice):
            # Moments with a lower number last do not come again.
            passed = {}
        moment = unbroken_after(house, promise, pages, moment, choice)
        if moment is None:
            return (BROKEN, (notes, sheets, steps))
    return (ENDLESS, (notes, sheets, steps))


def _word_done(house, moment, choice):
    """The word of the line that the house does by a choice, or None."""
    return house.rows[moment[0]][0] if choice == GO_ON else None
