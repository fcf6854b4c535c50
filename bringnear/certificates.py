"""Claims with papers that anybody can check: of two claims that exclude one another the one that is so."""

from bringnear.data import bearing, misfit, settled, two_values
from bringnear.discs import blend_fits, blend_place
from bringnear.functions import ring, values_for
from bringnear.lots import any_gap, breaking_gap, parting_gap
from bringnear.rates import descent, descent_share, descent_weights
from bringnear.ratios import NIL
from bringnear.rests import drift, rest_word
from bringnear.tables import breaking_row


def certify_lot(lot, kind):
    """Whether the lot lies in the kind."""
    gap = breaking_gap(lot, kind)
    if gap is None:
        return ("lies in", lot, kind), ()
    return ("breaks", lot, kind), gap


def certify_some(lot):
    """Whether the lot is empty."""
    gap = any_gap(lot)
    if gap is None:
        return ("empty", lot), ()
    return ("holds some", lot), gap


def certify_bringing(lot, square):
    """Whether the lot brings near by the square."""
    gap = parting_gap(lot, square)
    if gap is None:
        return ("brings", lot, square), ()
    return ("parts", lot, square), gap


def certify_blend(first, second, mix, disc):
    """Whether all blends of maps of the first two discs are of the disc."""
    if blend_fits(first, second, mix, disc):
        return ("blend within", first, second, mix, disc), ()
    place = blend_place(first, second, mix, disc[0])
    paper = NIL if place is None else place
    return ("blend beyond", first, second, mix, disc), paper


def certify_table(table, kind):
    """Whether x to T x keeps the kind."""
    row = breaking_row(table, kind)
    if row is None:
        return ("table keeps", table, kind), ()
    return ("table breaks", table, kind), row


def certify_map(kind, data):
    """Whether some map that keeps the kind has the data."""
    pair = misfit(kind, data)
    if pair is None:
        return ("some map", kind, data), ()
    return ("no map", kind, data), pair


def certify_place(kind, data, place):
    """Whether all maps that keep the kind and have the data lead the place to one value."""
    value = settled(kind, data, place)
    if value is None:
        return ("free", kind, data, place), two_values(kind, data, place)
    return ("settled", kind, data, place, value), bearing(kind, data, place)


def certify_rest(kind, data):
    """Whether each map that keeps the kind and has the data has a rest."""
    if rest_word(kind, data) == "loose":
        return ("may drift", kind, data), drift(kind, data)
    return ("rests", kind, data), ()


def certify_function(span, points):
    """Whether some function with the span has the points."""
    found = ring(span, points)
    if found is None:
        return ("function", span, points), values_for(span, points)
    return ("no function", span, points), found


def certify_descent(size, step, number):
    """The least share that the span of 0 and the size and the plain descent have."""
    share = descent_share(size, step, number)
    return ("rate", (NIL, size), descent(step, number), share), descent_weights(number)
