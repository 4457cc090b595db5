"""The refusals: each function names those it makes, and raises no other."""


class ShareError(ValueError):
    """Any refusal."""


class NoPrime(ShareError):
    """What should be a prime is none."""


class BadRest(ShareError):
    """What should be a rest is none, or is 0 where 0 will not do."""


class BadRow(ShareError):
    """What should be a row is none, or is none that will do."""


class BadTable(ShareError):
    """Lines are none of a table, or what is wanted does not fit them."""


class BadShares(ShareError):
    """Shares or places are none."""


class BadNeed(ShareError):
    """What should be a need is none."""


class TooMany(ShareError):
    """There would be more than there may be."""


class TooFew(ShareError):
    """There are fewer shares than the need."""


class Unlike(ShareError):
    """Shares do not lie on one row, as they should."""


class NoWay(ShareError):
    """A number is none of a row among those that are numbered."""


class NoShare(ShareError):
    """A place is none of a share that is kept."""


class Taken(ShareError):
    """A place has a share already."""


class NoText(ShareError):
    """A text is none in which shares are written."""
