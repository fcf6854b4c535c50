"""The search for gaps among all those that several kinds hold.

It goes by whole numbers alone. A gap stands for all of its multiples, as three whole numbers. A
cut is any three whole numbers (A, B, D), a kind or not, with the form of a kind; the gaps at which
the form of a kind is 0 are its line.
"""

from bringnear.ratios import lowest

# The form of this cut, a + c, is above 0 at each gap.
EVERYWHERE = (1, 0, 1)


def excess(cut):
    """B B - A D, above 0 for kinds."""
    return cut[1] ** 2 - cut[0] * cut[2]


def form(cut, gap):
    return cut[0] * gap[2] - 2 * cut[1] * gap[1] + cut[2] * gap[0]


def is_inside(gap):
    """Whether three whole numbers are a gap."""
    return gap[0] + gap[2] > 0 and gap[0] * gap[2] >= gap[1] ** 2


def is_held(lot, gap):
    """Whether three whole numbers are a gap that each kind holds."""
    return is_inside(gap) and all(form(kind, gap) <= 0 for kind in lot)


def upright(numbers):
    """The numbers or their opposites, whichever can be a gap."""
    if numbers[0] + numbers[2] < 0:
        return tuple(-number for number in numbers)
    return numbers


def middle(kind):
    """The gap U of the line: with V = chord_way(kind) its gaps are the U + s V, s s up to excess(kind)."""
    first, second, third = kind
    twice = 2 * excess(kind)
    both = first + third
    return twice + both * first, both * second, twice + both * third


def chord_way(kind):
    """The V of middle; its first and last number cancel out, so that a + c is above 0 at each U + s V."""
    first, second, third = kind
    return 2 * second, third - first, -2 * second


def meeting(kind, other):
    """Where two lines meet: no gap if they meet outside of all gaps, noughts if they are one line."""
    first, second, third = kind
    one, two, three = other
    return upright((
        2 * (first * two - second * one),
        first * three - third * one,
        2 * (second * three - third * two),
    ))


def gap_near_end(kind, cut):
    """A gap of the kind's line between the place where the cut's form is 0 and the end to which it rises.

    If there is no such place on the line, the numbers may be no gap: who calls sees whether they are.
    """
    centre, way, square = middle(kind), chord_way(kind), excess(kind)
    start, rise = form(cut, centre), form(cut, way)
    steep = abs(rise)
    # The end may be told by no fractions. But for each t with t t below N the number
    # (N + (N + 1) t) / (N + 1 + t) is between t and the root of N; here t is - start / steep.
    top = square * steep - (square + 1) * start
    bottom = (square + 1) * steep - start
    if rise < 0:
        top = -top
    return tuple([bottom * at + top * by for at, by in zip(centre, way)])


def raising_pair(cut):
    """Whole numbers e, f with A e e + 2 B e f + D f f above 0; None if there are none."""
    first, second, third = cut
    for e, f in ((1, 0), (0, 1), (-second, first), (third, -second), (1, 1), (1, -1)):
        if first * e * e + 2 * second * e * f + third * f * f > 0:
            return e, f
    return None


def peaks(cut):
    """At most one gap, at which the form of the cut is above 0."""
    pair = raising_pair(cut)
    if pair is None:
        return []
    e, f = pair
    return [(f * f, -e * f, e * e)]


def meetings(lot):
    return [meeting(kind, other) for at, kind in enumerate(lot) for other in lot[:at]]


def found_gap(lot, cut):
    """Any gap that each kind holds and at which the form of the cut is above 0; None.

    Where there are such gaps, either all gaps with the form above 0 are held, the peak too, or a line
    has such gaps: these are a stretch of it, which has the middle in it, or ends where another line
    meets it, or reaches from the place where the form is 0 to the end of the line.
    """
    tried = [middle(kind) for kind in lot] + meetings(lot) + [gap_near_end(kind, cut) for kind in lot] + peaks(cut)
    for gap in tried:
        if form(cut, gap) > 0 and is_held(lot, gap):
            return lowest(gap)
    return None


def told_gap(numbers):
    """A gap of whole numbers as one of fractions; None for None."""
    if numbers is None:
        return None
    return tuple((number, 1) for number in numbers)
