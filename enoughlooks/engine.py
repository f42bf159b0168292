"""The engine's runs on tables, and the bound of its looks."""

from enoughlooks.forests import factor
from enoughlooks.least import least
from enoughlooks.looks import layout, told_by
from enoughlooks.shapes import places_many
from enoughlooks.turns import begin, behind, result, wanted


def run(question, tables):
    """The SHAPE and the PAPER that the engine comes to, and the list of its LOOKS."""
    return run_knowing(question, tables, [])


def run_knowing(question, tables, pairs):
    """The same, with just those LOOKS that are not told by these pairs."""
    shape, paper, fresh = led(question, layout(question, tables), {look: its for look, its in pairs})
    return shape, paper, [look for look, its in fresh]


def led(question, laid, known):
    """The SHAPE, the PAPER, and the list of the TOLD LOOKS that are done by a layout, as they are not known."""
    fresh = []
    state = begin(question)
    look = wanted(question, state)
    while look is not None:
        if look in known:
            its = known[look]
        else:
            its = told_by(laid, look)
            fresh.append((look, its))
        state = behind(question, state, its)
        look = wanted(question, state)
    shape, paper = result(question, state)
    return shape, paper, fresh


def measured(question, tables):
    """LEAST, the number of PLACES, that of the LOOKS of a run, and the most that these may be."""
    shape, paper, looks = run(question, tables)
    fewest, places = least(question, tables), places_many(shape)
    return fewest, places, len(looks), factor(question) * (fewest + places)


def is_bounded(question, tables):
    """Whether the LOOKS of a run are from LEAST to the most that they may be."""
    fewest, places, looks, most = measured(question, tables)
    return fewest <= looks <= most
