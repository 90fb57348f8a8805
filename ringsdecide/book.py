"""Books: what is told of the relations among places, deed by deed, so that there always is a completion."""

from ringsdecide.bits import Joins, lot_of
from ringsdecide.cells import all_pairs, is_open
from ringsdecide.choices import filled
from ringsdecide.deciding import network_links
from ringsdecide.errors import Refused
from ringsdecide.meeting import require_deciding
from ringsdecide.pages import blank_page, left_bits, page_with, page_without
from ringsdecide.values import is_below
from ringsdecide.walks import lacking_walk


def check_two(book, u, v):
    """Refuse any values that are no two unlike places."""
    if not is_below(u, book.places) or not is_below(v, book.places) or u == v:
        raise Refused(0)


def check_relation(book, x):
    """Refuse any value that is no relation."""
    if not is_below(x, book.kind.relations):
        raise Refused(1)


class Book:
    """What is told among some places; each deed can be undone."""

    def __init__(self, kind, places):
        require_deciding(kind)
        # The network of this page refuses what are no places.
        self._page = blank_page(kind, places)
        self._joins = Joins(kind)
        self.kind = kind
        self.places = places
        # The pages before each deed; a page never changes, so to undo a deed is to turn back.
        self._earlier = []

    def __len__(self):
        return len(self._earlier)

    def _turn(self, page):
        """Do a deed, after which this is the page."""
        self._earlier = self._earlier + [self._page]
        self._page = page

    def network(self):
        """The network of what is told."""
        return self._page.written

    def tell(self, u, v, x):
        """Tell the relation x from u to v."""
        check_two(self, u, v)
        check_relation(self, x)
        if self._page.written.between(u, v) is not None:
            raise Refused(2)
        if not left_bits(self._page, u, v) >> x & 1:
            raise Refused(3)
        self._turn(page_with(self._joins, self._page, u, v, x))

    def take(self, u, v):
        """Take back what is told of a pair."""
        check_two(self, u, v)
        if self._page.written.between(u, v) is None:
            raise Refused(2)
        self._turn(page_without(self._joins, self._page, min(u, v), max(u, v)))

    def possible(self, u, v):
        """The lot of all relations that are possible from u to v."""
        check_two(self, u, v)
        return lot_of(left_bits(self._page, u, v))

    def why_not(self, u, v, x):
        """None if x is possible, () if another relation is told, else a ring that cannot be completed with it."""
        check_two(self, u, v)
        check_relation(self, x)
        network = self._page.written
        if left_bits(self._page, u, v) >> x & 1:
            return None
        if network.between(u, v) is not None:
            return ()
        way = lacking_walk(self._joins, network_links(network), {(u, v): x})
        return (u, v) + way[-2:0:-1]

    def completion(self):
        """The first completion."""
        return filled(self._page.written)

    def free_pairs(self):
        """All pairs that are not told and for which two or more relations are possible."""
        return tuple([(u, v) for u, v in all_pairs(self.places) if is_open(left_bits(self._page, u, v))])

    def undo(self):
        """Undo the last deed; whether there was one."""
        if not self._earlier:
            return False
        self._page = self._earlier[-1]
        self._earlier = self._earlier[:-1]
        return True

    def within(self, work):
        """What `work` returns of the book, or raises; then all its deeds are undone."""
        page = self._page
        earlier = self._earlier
        try:
            return work(self)
        finally:
            self._page = page
            self._earlier = earlier
