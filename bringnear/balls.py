"""Balls told by whole numbers, and the row that is farthest within all of them.

Balls are a triple (scale, centres, squares): the centres are these rows of whole numbers over the
scale, the squares of their radii these whole numbers over its square.
"""

from itertools import combinations

from bringnear.grids import solved, whole_dot
from bringnear.ratios import ONE, minus, over, plus, ratio


def products_of(centres):
    return [[whole_dot(centre, other) for other in centres] for centre in centres]


def way_products(products, base):
    """The products of the ways to the centres from the one with the index base."""
    upper = products[base]
    return [
        [number - upper[at] - upper[by] + upper[base] for by, number in enumerate(row)]
        for at, row in enumerate(products)
    ]


def level_weights(chosen, products, squares):
    """Weights from 0 on of the chosen centres, bearing a row that is as far within all of their balls; None.

    All other balls must have it as far within, or farther.
    """
    base, others = chosen[0], chosen[1:]
    ways = way_products(products, base)
    heights = [ways[at][at] - square + squares[base] for at, square in enumerate(squares)]
    found = solved([[*[2 * ways[at][by] for by in others], heights[at]] for at in others])
    if found is None:
        return None
    bottom, sides = found
    weights = [0] * len(squares)
    for at, side in zip(others, sides):
        weights[at] = side[0]
    weights[base] = bottom - sum(weights)
    if min(weights) < 0:
        return None
    for at, height in enumerate(heights):
        if bottom * height > 2 * whole_dot(weights, ways[at]):
            return None
    return bottom, weights


def weights_of(balls):
    """(bottom, weights): whole numbers, one for each ball, which over the bottom are bearing weights.

    There always are such ones of no more balls than unknowns and one, whose centres are not between others.
    """
    _, centres, squares = balls
    products = products_of(centres)
    for many in range(1, len(centres[0]) + 2):
        for chosen in combinations(range(len(centres)), many):
            weights = level_weights(chosen, products, squares)
            if weights is not None:
                return weights
    return None


def borne(centres, weights):
    """The sum of the centres, each times its weight."""
    return [whole_dot(weights, column) for column in zip(*centres)]


def middle_of(balls, weights):
    """The row that weights, told with their bottom, bear."""
    scale, centres, _ = balls
    bottom, parts = weights
    return tuple([ratio(number, bottom * scale) for number in borne(centres, parts)])


def room_of(balls, weights):
    """How far within the balls this row is: the least of the squares less those of its distances."""
    scale, centres, squares = balls
    bottom, parts = weights
    row = borne(centres, parts)
    heights = [whole_dot(centre, centre) - square for centre, square in zip(centres, squares)]
    return ratio(whole_dot(row, row) - bottom * whole_dot(parts, heights), (bottom * scale) ** 2)


def row_beside(balls, weights):
    """A row within all balls beside the one that the weights bear, the room being above 0."""
    scale, centres, _ = balls
    first, *others = middle_of(balls, weights)
    # By a step s, 0 < s <= 1, along the first unknown the square of a distance, of which the way along
    # it is a, grows by 2 s a + s s, which is at most s (1 + 2 |a|): for all balls no more than the room.
    reach = ONE
    for centre in centres:
        top, bottom = minus(first, ratio(centre[0], scale))
        reach = plus(reach, (2 * abs(top), bottom))
    top, bottom = over(reach, room_of(balls, weights))
    return plus(first, (1, top // bottom + 1)), *others
