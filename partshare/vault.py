"""A vault: shares that are kept, and given anew."""

from partshare.anew import check_holders_rows, dealt, refreshed
from partshare.errors import BadShares, NoShare, Taken, TooMany
from partshare.mending import mended
from partshare.parting import MOST_SHARES, check_enough, check_need, check_places, is_place, is_share
from partshare.rests import check_prime


class Vault:
    """Shares of one number over one prime, at most 20, some of which may be wrong."""

    def __init__(self, p, need):
        """A vault without shares."""
        check_prime(p)
        check_need(need)
        self.prime = p
        self.need = need
        self._kept = {}

    def put(self, place, worth):
        """Keep one share more."""
        if not is_share(self.prime, (place, worth)):
            raise BadShares("this is no share of the prime")
        if place in self._kept:
            raise Taken("the place has a share already")
        if len(self._kept) >= MOST_SHARES:
            raise TooMany("20 shares are kept already")
        self._kept[place] = worth

    def drop(self, place):
        """The worth at the place; this share is kept no longer."""
        if not is_place(self.prime, place) or place not in self._kept:
            raise NoShare("this is no place of a share that is kept")
        return self._kept.pop(place)

    def shares(self):
        """The shares, rising by places."""
        return [(place, self._kept[place]) for place in sorted(self._kept)]

    def number(self):
        """The number that the shares tell once they are mended."""
        row, _ = mended(self.prime, self.need, self.shares())
        return row[0]

    def wrong(self):
        """The places of the wrong shares, rising."""
        _, places = mended(self.prime, self.need, self.shares())
        return places

    def refresh(self, row):
        """Add to each worth that of the row at the same place."""
        self._kept = dict(refreshed(self.prime, self.shares(), row))

    def change(self, places, rows):
        """Deal the shares anew by the rows, and keep those at the new places in the place of the old ones."""
        old = self.shares()
        check_places(self.prime, places)
        check_holders_rows(self.prime, old, rows)
        check_enough(self.need, old)
        self._kept = dict(dealt(self.prime, [place for place, _ in old], rows, places))
        self.need = len(rows[0])
