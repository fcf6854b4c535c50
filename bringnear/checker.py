"""The checker of claims and their papers: what it accepts is true, whoever wrote it.

For each word of a claim there is a function of the parts behind the word and of the paper, whatever
these are.
"""

from bringnear.data import all_fit, fit, is_data, misfit, value_balls
from bringnear.discs import blend_fits, is_disc, line_pairs, lines_at, roots_are_within
from bringnear.functions import are_marks, are_points, is_span, least_misfit, round_sum, whole_rises
from bringnear.gaps import EVERYWHERE, form, is_held
from bringnear.grids import whole_dot
from bringnear.kinds import is_gap, is_kind
from bringnear.lots import brings, is_empty, is_lot, lot_lies_in, size_cut
from bringnear.rates import are_weights, is_broken, is_closed_span, is_method, is_shown
from bringnear.ratios import (
    NIL,
    ONE,
    are_fractions,
    dot,
    is_fraction,
    is_from_nil,
    is_index,
    is_up_to,
    minus,
    ratio,
    row_minus,
    times,
    whole_parts,
)
from bringnear.rests import rest_number, rest_word
from bringnear.tables import is_table, keeps_kind, opposite_form


def is_no_paper(paper):
    return isinstance(paper, tuple) and len(paper) == 0


def is_held_gap(paper, lot, cut):
    """Whether it is a gap that the lot holds and at which the form of the cut is above 0."""
    if not is_gap(paper):
        return False
    gap = whole_parts(paper)
    return is_held(lot, gap) and form(cut, gap) > 0


def are_indexes(paper, many):
    return isinstance(paper, tuple) and all(is_index(part, many) for part in paper)


def are_two_rows(paper, length):
    return isinstance(paper, tuple) and len(paper) == 2 and all(are_fractions(row, length) for row in paper)


def length_of(data):
    return len(data[0][0])


def is_lot_claim(parts):
    return len(parts) == 2 and is_lot(parts[0]) and is_kind(parts[1])


def accepts_lies_in(parts, paper):
    return is_lot_claim(parts) and is_no_paper(paper) and lot_lies_in(*parts)


def accepts_breaks(parts, paper):
    return is_lot_claim(parts) and is_held_gap(paper, parts[0], parts[1])


def is_some_claim(parts):
    return len(parts) == 1 and is_lot(parts[0])


def accepts_holds_some(parts, paper):
    return is_some_claim(parts) and is_held_gap(paper, parts[0], EVERYWHERE)


def accepts_empty(parts, paper):
    return is_some_claim(parts) and is_no_paper(paper) and is_empty(parts[0])


def is_bringing_claim(parts):
    return len(parts) == 2 and is_lot(parts[0]) and is_from_nil(parts[1])


def accepts_brings(parts, paper):
    return is_bringing_claim(parts) and is_no_paper(paper) and brings(*parts)


def accepts_parts(parts, paper):
    return is_bringing_claim(parts) and is_held_gap(paper, parts[0], size_cut(parts[1]))


def is_blend_claim(parts):
    if len(parts) != 4:
        return False
    first, second, mix, disc = parts
    return is_disc(first) and is_disc(second) and are_fractions(mix, 3) and is_disc(disc)


def accepts_blend_within(parts, paper):
    return is_blend_claim(parts) and is_no_paper(paper) and blend_fits(*parts)


def accepts_blend_beyond(parts, paper):
    if not is_blend_claim(parts) or not is_fraction(paper) or abs(paper[0]) > paper[1]:
        return False
    first, second, mix, (centre, radius) = parts
    upper, lower = line_pairs(first, second, mix, centre)
    one, other = lines_at(upper, lower, paper)
    return not roots_are_within(one, other, radius)


def is_table_claim(parts):
    return len(parts) == 2 and is_table(parts[0]) and is_kind(parts[1])


def accepts_table_keeps(parts, paper):
    return is_table_claim(parts) and is_no_paper(paper) and keeps_kind(*parts)


def accepts_table_breaks(parts, paper):
    if not is_table_claim(parts) or not are_fractions(paper, len(parts[0])):
        return False
    row = whole_parts(paper)
    return whole_dot(row, [whole_dot(numbers, row) for numbers in opposite_form(*parts)]) < 0


def is_map_claim(parts):
    return len(parts) == 2 and is_kind(parts[0]) and parts[0][0] > 0 and is_data(parts[1])


def accepts_some_map(parts, paper):
    return is_map_claim(parts) and is_no_paper(paper) and misfit(*parts) is None


def accepts_no_map(parts, paper):
    if not is_map_claim(parts) or not are_indexes(paper, len(parts[1])) or len(paper) != 2:
        return False
    kind, data = parts
    first, second = paper
    return not fit(kind, data[first], data[second])


def is_fitting_claim(parts, rows):
    """Whether they are a closed kind, data that fit it, and so many rows as long as those of the data."""
    if len(parts) != rows + 2 or not is_map_claim(parts[:2]):
        return False
    kind, data, *others = parts
    length = length_of(data)
    return all(are_fractions(row, length) for row in others) and misfit(kind, data) is None


def are_shares(paper, many):
    """Whether it is so many fractions from 0 on with the sum 1."""
    if not are_fractions(paper, many) or any(part[0] < 0 for part in paper):
        return False
    return dot(paper, [ONE for _ in paper]) == ONE


def accepts_settled(parts, paper):
    if not is_fitting_claim(parts, 2) or not are_shares(paper, len(parts[1])):
        return False
    kind, data, place, value = parts
    scale, centres, squares = value_balls(kind, data, place)
    rows = [tuple([ratio(number, scale) for number in centre]) for centre in centres]
    if [dot(paper, column) for column in zip(*rows)] != list(value):
        return False
    ways = [row_minus(value, row) for row in rows]
    heights = [minus(dot(way, way), ratio(square, scale ** 2)) for way, square in zip(ways, squares)]
    return dot(paper, heights) == NIL


def accepts_free(parts, paper):
    if not is_fitting_claim(parts, 1) or not are_two_rows(paper, length_of(parts[1])):
        return False
    kind, data, place = parts
    first, second = paper
    return first != second and all_fit(kind, data, (place, first)) and all_fit(kind, data, (place, second))


def accepts_rests(parts, paper):
    if not is_fitting_claim(parts, 0) or rest_number(parts[0]) < 0:
        return False
    return is_no_paper(paper) and rest_word(*parts) != "loose"


def is_left_inside(kind, pair, inner, way):
    """Whether the row is at more than the end of the half space of the pair, and the way never leaves this."""
    move = row_minus(pair[1], pair[0])
    twice = (2 * (kind[0] - kind[1]), 1)
    end = times((kind[0], 1), dot(move, move))
    if is_up_to(times(twice, dot(row_minus(inner, pair[0]), move)), end):
        return False
    return is_up_to(NIL, times(twice, dot(way, move)))


def accepts_may_drift(parts, paper):
    if not is_fitting_claim(parts, 0) or rest_number(parts[0]) != 0:
        return False
    kind, data = parts
    if not are_two_rows(paper, length_of(data)):
        return False
    inner, way = paper
    return any(part != NIL for part in way) and all(is_left_inside(kind, pair, inner, way) for pair in data)


def is_function_claim(parts):
    return len(parts) == 2 and is_span(parts[0]) and are_points(parts[1])


def accepts_function(parts, paper):
    if not is_function_claim(parts) or not are_fractions(paper, len(parts[1])):
        return False
    span, points = parts
    return least_misfit(span, [(*point, value) for point, value in zip(points, paper)]) is None


def accepts_no_function(parts, paper):
    if not is_function_claim(parts) or not are_indexes(paper, len(parts[1])):
        return False
    if len(paper) < 2 or len(set(paper)) < len(paper):
        return False
    _, rises = whole_rises(*parts)
    return round_sum(rises, paper) > 0


def is_rate_claim(parts):
    return len(parts) == 3 and is_closed_span(parts[0]) and is_method(parts[1]) and is_from_nil(parts[2])


def accepts_rate(parts, paper):
    return is_rate_claim(parts) and are_weights(paper, parts[1]) and is_shown(*parts, paper)


def accepts_no_rate(parts, paper):
    return is_rate_claim(parts) and are_marks(paper) and is_broken(*parts, paper)


CLAIMS = {
    "lies in": accepts_lies_in,
    "breaks": accepts_breaks,
    "holds some": accepts_holds_some,
    "empty": accepts_empty,
    "brings": accepts_brings,
    "parts": accepts_parts,
    "blend within": accepts_blend_within,
    "blend beyond": accepts_blend_beyond,
    "table keeps": accepts_table_keeps,
    "table breaks": accepts_table_breaks,
    "some map": accepts_some_map,
    "no map": accepts_no_map,
    "settled": accepts_settled,
    "free": accepts_free,
    "rests": accepts_rests,
    "may drift": accepts_may_drift,
    "function": accepts_function,
    "no function": accepts_no_function,
    "rate": accepts_rate,
    "no rate": accepts_no_rate,
}


def accepts(claim, paper):
    """Whether the one is a claim for the checker and the other one a paper for it."""
    if not isinstance(claim, tuple) or len(claim) == 0:
        return False
    word = claim[0]
    if not isinstance(word, str) or word not in CLAIMS:
        return False
    check = CLAIMS[word]
    return check(claim[1:], paper)
