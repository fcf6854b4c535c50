"""The errors that this package raises, all of them under NearError."""


class NearError(ValueError):
    """Stands above every error of this package."""


class InvalidFraction(NearError):
    """A value that is no fraction."""

    def __init__(self, given):
        super().__init__("no fraction (n, m)")
        self.given = given


class InvalidNumber(NearError):
    """A value that is no whole number within the bounds."""

    def __init__(self, given):
        super().__init__("no whole number within the bounds")
        self.given = given


class InvalidIndex(NearError):
    """A value that is no index."""

    def __init__(self, given):
        super().__init__("no index")
        self.given = given


class InvalidSize(NearError):
    """A value that is no fraction above 0."""

    def __init__(self, given):
        super().__init__("no fraction above 0")
        self.given = given


class InvalidSquare(NearError):
    """A value that is no fraction from 0 on."""

    def __init__(self, given):
        super().__init__("no fraction from 0 on")
        self.given = given


class InvalidShare(NearError):
    """A value that is no share."""

    def __init__(self, given):
        super().__init__("no share")
        self.given = given


class InvalidStep(NearError):
    """A value that is no step."""

    def __init__(self, given):
        super().__init__("no step")
        self.given = given


class InvalidKind(NearError):
    """A value that is no kind."""

    def __init__(self, given):
        super().__init__("no kind (A, B, D)")
        self.given = given


class InvalidGap(NearError):
    """A value that is no gap of fractions."""

    def __init__(self, given):
        super().__init__("no gap (a, b, c) of fractions")
        self.given = given


class InvalidLead(NearError):
    """A value that is no lead."""

    def __init__(self, given):
        super().__init__("no lead ((e, f), (g, h))")
        self.given = given


class InvalidDisc(NearError):
    """A value that is no disc."""

    def __init__(self, given):
        super().__init__("no disc (C, R)")
        self.given = given


class InvalidMix(NearError):
    """A value that is no mix."""

    def __init__(self, given):
        super().__init__("no mix (w0, w1, w2)")
        self.given = given


class InvalidTable(NearError):
    """A value that is no table of the size that is asked for."""

    def __init__(self, given):
        super().__init__("no table of the size that is asked for")
        self.given = given


class InvalidSpan(NearError):
    """A value that is no span."""

    def __init__(self, given):
        super().__init__("no span (M, L)")
        self.given = given


class InvalidMethod(NearError):
    """A value that is no method."""

    def __init__(self, given):
        super().__init__("no method")
        self.given = given


class InvalidRow(NearError):
    """A value that is no row of the length that is asked for."""

    def __init__(self, index):
        super().__init__("no row of the length that is asked for")
        self.index = index


class InvalidLot(NearError):
    """A value that is no lot."""

    def __init__(self, index):
        super().__init__("no lot of one to four kinds")
        self.index = index


class InvalidData(NearError):
    """A value that is no data."""

    def __init__(self, index):
        super().__init__("no data")
        self.index = index


class InvalidPoints(NearError):
    """A value that is no points."""

    def __init__(self, index):
        super().__init__("no points")
        self.index = index


class InvalidMarks(NearError):
    """A value that is no marks."""

    def __init__(self, index):
        super().__init__("no marks")
        self.index = index


class InvalidWeights(NearError):
    """A value that is no weights."""

    def __init__(self, index):
        super().__init__("no weights for the method")
        self.index = index


class Misfit(NearError):
    """Data of which two do not fit the kind."""

    def __init__(self, index):
        super().__init__("the data do not fit the kind")
        self.index = index


class NoKind(NearError):
    """Numbers that are those of no kind."""


class LikePairs(NearError):
    """Two pairs that are the same and so have no gap."""


class EmptyLot(NearError):
    """A lot that holds no gap."""


class NotClosed(NearError):
    """A kind that is not closed."""


class Wild(NearError):
    """A kind whose rest number is below 0."""


class NoFunction(NearError):
    """Points that no function with the span has."""
