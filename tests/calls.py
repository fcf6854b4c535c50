"""All functions of the interface, each with a good call and the wrong values of its parameters."""

from bringnear import certificates, checker, data, discs, errors, functions, kinds, leads, lots, rates, rests, tables
from tests.helpers import HALF, LESS, NIL, ONE, TWO
from tests.wrong_values import (
    DATA, DISC, DOWNWARD_STEP, FEW, FRACTION, GAP, KIND, LEAD, LOT, MANY, MARKS, METHOD, MIX, NEAR, NO_DATA, NO_DISC,
    NO_GAP, NO_INDEX, NO_KIND, NO_LEAD, NO_LOT, NO_MARKS, NO_METHOD, NO_MIX, NO_OTHER_TABLE, NO_POINTS, NO_RATE,
    NO_RATE_SPAN, NO_ROW, NO_SPAN, NO_TABLE, NO_WEIGHTS, OTHER, PART, POINTS, SECOND, SHARE, SHORT_STEP, SIZE, SPAN,
    SQUARE, STEP, STEP_NUMBER, TABLE, WEIGHTS, no_rows,
)

ROW = (ONE, HALF)
BLEND = (("first", DISC, NO_DISC), ("second", NEAR, NO_DISC), ("mix", MIX, NO_MIX))
KNOWN = (("kind", KIND, NO_KIND), ("data", DATA, NO_DATA))
HAVING = (("span", SPAN, NO_SPAN), ("points", POINTS, NO_POINTS))
TWO_OF_THEM = (*HAVING, ("first", 2, NO_INDEX), ("second", 1, NO_INDEX))
RATE = (("span", SPAN, NO_RATE_SPAN), ("method", METHOD, NO_METHOD), ("share", HALF, NO_RATE))
DESCENT = (("size", TWO, SIZE), ("step", HALF, SHORT_STEP), ("number", 3, FEW))

# The function, its parameters in their order, each with a good value and the wrong ones.
CALLS = (
    (kinds.gap_of, (("x", (ONE, TWO), no_rows(None)), ("u", (ONE, NIL), no_rows(2)), ("y", (NIL, NIL), no_rows(2)),
                    ("v", (NIL, HALF), no_rows(2)))),
    (kinds.kind_of, (("first", ONE, FRACTION), ("second", TWO, FRACTION), ("third", LESS, FRACTION))),
    (kinds.bounded, (("size", TWO, SIZE),)),
    (kinds.one_way, (("least", LESS, FRACTION),)),
    (kinds.pulled, (("size", TWO, SIZE),)),
    (kinds.averaged, (("share", HALF, SHARE),)),
    (kinds.disc_kind, (("centre", NIL, FRACTION), ("radius", HALF, SIZE))),
    (kinds.word_of, (("kind", KIND, NO_KIND),)),
    (kinds.centre_of, (("kind", KIND, NO_KIND),)),
    (kinds.radius_square, (("kind", KIND, NO_KIND),)),
    (kinds.holds, (("kind", KIND, NO_KIND), ("gap", GAP, NO_GAP))),
    (kinds.lies_in, (("kind", KIND, NO_KIND), ("other", OTHER, NO_KIND))),
    (kinds.gap_between, (("kind", KIND, NO_KIND), ("other", OTHER, NO_KIND))),
    (leads.led, (("kind", KIND, NO_KIND), ("lead", LEAD, NO_LEAD))),
    (leads.gap_led, (("gap", GAP, NO_GAP), ("lead", LEAD, NO_LEAD))),
    (leads.lead_product, (("lead", LEAD, NO_LEAD), ("other", LEAD, NO_LEAD))),
    (leads.lead_back, (("lead", LEAD, NO_LEAD),)),
    (leads.step_lead, (("step", HALF, STEP),)),
    (leads.resolvent_lead, (("step", HALF, STEP),)),
    (leads.reflection_lead, (("step", HALF, STEP),)),
    (leads.mean_lead, (("step", HALF, STEP),)),
    (leads.lead_between, (("kind", KIND, NO_KIND), ("other", OTHER, NO_KIND))),
    (lots.is_empty, (("lot", LOT, NO_LOT),)),
    (lots.any_gap, (("lot", LOT, NO_LOT),)),
    (lots.lot_lies_in, (("lot", LOT, NO_LOT), ("kind", KIND, NO_KIND))),
    (lots.breaking_gap, (("lot", LOT, NO_LOT), ("kind", KIND, NO_KIND))),
    (lots.brings, (("lot", LOT, NO_LOT), ("square", HALF, SQUARE))),
    (lots.spreads, (("lot", LOT, NO_LOT), ("square", HALF, SQUARE))),
    (lots.size_near, (("lot", LOT, NO_LOT), ("many", 10, MANY))),
    (lots.best_step, (("lot", LOT, NO_LOT),)),
    (discs.lies_in_disc, (("disc", DISC, NO_DISC), ("other", NEAR, NO_DISC))),
    (discs.sum_disc, (("disc", DISC, NO_DISC), ("other", NEAR, NO_DISC))),
    (discs.scaled_disc, (("disc", DISC, NO_DISC), ("fraction", LESS, FRACTION))),
    (discs.kind_of_disc, (("disc", DISC, NO_DISC),)),
    (discs.disc_of_kind, (("kind", KIND, NO_KIND),)),
    (discs.blend_lines, (*BLEND, ("centre", HALF, FRACTION))),
    (discs.blend_place, (*BLEND, ("centre", HALF, FRACTION))),
    (discs.blend_worst, (*BLEND, ("centre", HALF, FRACTION))),
    (discs.blend_fits, (*BLEND, ("disc", NEAR, NO_DISC))),
    (discs.blend_near, (*BLEND, ("centre", HALF, FRACTION), ("many", 10, MANY))),
    (discs.chain_share, (("share", HALF, PART), ("other", (1, 3), PART))),
    (tables.keeps_kind, (("table", TABLE, NO_TABLE), ("kind", KIND, NO_KIND))),
    (tables.breaking_row, (("table", TABLE, NO_TABLE), ("kind", KIND, NO_KIND))),
    (tables.turn_table, (("first", HALF, FRACTION), ("second", LESS, FRACTION))),
    (tables.turn_for, (("gap", GAP, NO_GAP),)),
    (tables.led_table, (("table", TABLE, NO_TABLE), ("lead", LEAD, NO_LEAD))),
    (tables.blend_table, (("table", TABLE, NO_TABLE), ("other", SECOND, NO_OTHER_TABLE), ("mix", MIX, NO_MIX))),
    (tables.width_square_near, (("table", TABLE, NO_TABLE), ("centre", HALF, FRACTION), ("many", 10, MANY))),
    (tables.rest_of_table, (("table", TABLE, NO_TABLE), ("row", ROW, NO_ROW))),
    (tables.run_of_table, (("table", TABLE, NO_TABLE), ("row", ROW, NO_ROW), ("start", (NIL, LESS), NO_ROW),
                           ("number", 2, STEP_NUMBER))),
    (data.misfit, KNOWN),
    (data.could_lead, (*KNOWN, ("place", ROW, NO_ROW), ("value", (NIL, LESS), NO_ROW))),
    (data.middle, (*KNOWN, ("place", ROW, NO_ROW))),
    (data.room, (*KNOWN, ("place", ROW, NO_ROW))),
    (data.settled, (*KNOWN, ("place", ROW, NO_ROW))),
    (data.bearing, (*KNOWN, ("place", ROW, NO_ROW))),
    (rests.rest_number, (("kind", KIND, NO_KIND),)),
    (rests.can_rest, (*KNOWN, ("place", ROW, NO_ROW))),
    (rests.any_rest, KNOWN),
    (rests.rest_word, KNOWN),
    (rests.settled_rest, KNOWN),
    (functions.rise, TWO_OF_THEM),
    (functions.misfit_of_marks, (("span", SPAN, NO_SPAN), ("marks", MARKS, NO_MARKS))),
    (functions.ring, HAVING),
    (functions.values_for, HAVING),
    (functions.difference_range, TWO_OF_THEM),
    (functions.kind_of_span, (("span", SPAN, NO_SPAN),)),
    (rates.form, (*RATE, ("weights", WEIGHTS, NO_WEIGHTS))),
    (rates.shows_rate, (*RATE, ("weights", WEIGHTS, NO_WEIGHTS))),
    (rates.is_run, (("method", METHOD, NO_METHOD), ("marks", MARKS, NO_MARKS))),
    (rates.breaks_rate, (*RATE, ("marks", MARKS, NO_MARKS))),
    (rates.descent, (("step", TWO, DOWNWARD_STEP), ("number", 3, FEW))),
    (rates.descent_share, DESCENT),
    (rates.descent_weights, (("number", 3, FEW),)),
    (rates.descent_marks, (*DESCENT, ("far", HALF, SIZE))),
    (certificates.certify_lot, (("lot", LOT, NO_LOT), ("kind", KIND, NO_KIND))),
    (certificates.certify_some, (("lot", LOT, NO_LOT),)),
    (certificates.certify_bringing, (("lot", LOT, NO_LOT), ("square", HALF, SQUARE))),
    (certificates.certify_blend, (*BLEND, ("disc", NEAR, NO_DISC))),
    (certificates.certify_table, (("table", TABLE, NO_TABLE), ("kind", KIND, NO_KIND))),
    (certificates.certify_map, KNOWN),
    (certificates.certify_place, (*KNOWN, ("place", ROW, NO_ROW))),
    (certificates.certify_rest, KNOWN),
    (certificates.certify_function, HAVING),
    (certificates.certify_descent, DESCENT),
)
WHATEVER = (
    kinds.is_kind, kinds.is_gap, leads.is_lead, lots.is_lot, discs.is_disc, tables.is_table, data.is_data,
    functions.is_span, rates.is_method,
)

EMPTY = ((1, 0, -1), (0, 1, 4))
# A kind that is a side, one that is open, and one, closed, whose rest number is below 0.
SIDE, OPEN, WILD = (0, 1, 0), (-1, 0, 1), (1, 2, 2)
STILL = (((ONE, ONE), (ONE, ONE)), ((TWO, ONE), (TWO, ONE)))
FAST = (*DATA[:2], ((ONE, NIL), (ONE, TWO)))
# Three points with a ring: the first two do not go together.
BARRED = (POINTS[0], ((TWO, NIL), (ONE, NIL)), POINTS[1])


def last_of_data(function, *behind):
    return (
        *((function, (kind, known, *behind), errors.NotClosed, {})
          for kind in (SIDE, OPEN, (-1, 2, -2)) for known in (DATA, FAST, STILL)),
        (function, (KIND, FAST, *behind), errors.Misfit, {"index": (0, 2)}),
        (function, ((4, 0, -1), (STILL[1], *STILL, *FAST), *behind), errors.Misfit, {"index": (0, 1)}),
        (function, (WILD, (STILL[1], *STILL, *FAST), *behind), errors.Misfit, {"index": (0, 4)}),
    )


# What is told with "last": arguments, the error that they raise if nothing else is wrong, and what it tells.
LAST = (
    (kinds.gap_of, (ROW, ROW, ROW, ROW), errors.LikePairs, {}),
    (kinds.kind_of, (ONE, ONE, ONE), errors.NoKind, {}),
    (lots.size_near, (EMPTY, 3), errors.EmptyLot, {}),
    (lots.best_step, (EMPTY,), errors.EmptyLot, {}),
    (discs.kind_of_disc, ((HALF, NIL),), errors.NoKind, {}),
    (discs.kind_of_disc, ((NIL, NIL),), errors.NoKind, {}),
    (data.misfit, (SIDE, DATA), errors.NotClosed, {}),
    (data.misfit, (OPEN, FAST), errors.NotClosed, {}),
    *last_of_data(data.could_lead, ROW, ROW),
    *last_of_data(data.middle, ROW),
    *last_of_data(data.room, ROW),
    *last_of_data(data.settled, ROW),
    *last_of_data(data.bearing, ROW),
    *last_of_data(rests.can_rest, ROW),
    *last_of_data(rests.any_rest),
    *last_of_data(rests.rest_word),
    *last_of_data(rests.settled_rest),
    (rests.rest_word, (WILD, STILL), errors.Wild, {}),
    (rests.settled_rest, (WILD, STILL), errors.Wild, {}),
    (rests.rest_word, (WILD, STILL[:1]), errors.Wild, {}),
    (rests.settled_rest, (WILD, STILL[:1]), errors.Wild, {}),
    *((functions.difference_range, (SPAN, BARRED, first, second), errors.NoFunction, {})
      for first in range(3) for second in range(3)),
    (certificates.certify_map, (SIDE, DATA), errors.NotClosed, {}),
    (certificates.certify_map, (OPEN, FAST), errors.NotClosed, {}),
    *last_of_data(certificates.certify_place, ROW),
    *last_of_data(certificates.certify_rest),
    (certificates.certify_rest, (WILD, STILL), errors.Wild, {}),
    (certificates.certify_rest, (WILD, STILL[:1]), errors.Wild, {}),
)

INTERFACE = {
    kinds: "is_kind is_gap gap_of kind_of bounded one_way pulled averaged disc_kind word_of centre_of radius_square "
           "holds lies_in gap_between",
    leads: "is_lead led gap_led lead_product lead_back step_lead resolvent_lead reflection_lead mean_lead lead_between",
    lots: "is_lot is_empty any_gap lot_lies_in breaking_gap brings spreads size_near best_step",
    discs: "is_disc lies_in_disc sum_disc scaled_disc kind_of_disc disc_of_kind blend_lines blend_place blend_worst "
           "blend_fits blend_near chain_share",
    tables: "is_table keeps_kind breaking_row turn_table turn_for led_table blend_table width_square_near "
            "rest_of_table run_of_table",
    data: "is_data misfit could_lead middle room settled bearing",
    rests: "rest_number can_rest any_rest rest_word settled_rest",
    functions: "is_span rise misfit_of_marks ring values_for difference_range kind_of_span",
    rates: "is_method form shows_rate is_run breaks_rate descent descent_share descent_weights descent_marks",
    checker: "accepts",
    certificates: "certify_lot certify_some certify_bringing certify_blend certify_table certify_map certify_place "
                  "certify_rest certify_function certify_descent",
}
