"""Demands of a book that can't stand together, and demands that say nothing new.

A lot strikes some clashes if it has a demand of each of them. The search finds one more clash at
a time, among the demands that a lot leaves which strikes all clashes so far. It ends when each
such lot leaves demands that can stand: another clash would be among those of one of them.
"""

from everylevel.books import Book
from everylevel.following import follows
from everylevel.solutions import can_be


def least_clashes(book):
    """The ascending tuple of all lots of demands that nothing keeps, while each lesser lot is kept."""
    clashes, _ = _clashes_and_strikes(book)
    return tuple(sorted(clashes))


def struck(book):
    """Some lot of as few demands as possible such that some numbers keep all others."""
    _, strikes = _clashes_and_strikes(book)
    return min(strikes, key=len)


def needless(book):
    """The lot of the numbers of the demands that follow, each by itself, from all others."""
    return tuple([at for at, demand in enumerate(book.demands) if follows(book.but(at), demand)])


def _clashes_and_strikes(book):
    """All least clashes, and all lots that strike them while no lesser lot does."""
    clashes, strikes = [], []
    tried = [()]
    while tried:
        left = [at for at in range(len(book)) if at not in tried[-1]]
        if _can_stand(book, left):
            strikes.append(tried.pop())
        else:
            clash = _least_clash(book, left)
            clashes.append(clash)
            tried = _striking(clash, tried, strikes)
    return clashes, strikes


def _can_stand(book, lot):
    """Whether some numbers keep the demands with these numbers."""
    return can_be(Book(book.names, [book.demands[at] for at in lot]))


def _least_clash(book, lot):
    """A least clash among demands that nothing keeps together."""
    clash = list(lot)
    for at in lot:
        others = [other for other in clash if other != at]
        if not _can_stand(book, others):
            clash = others
    return tuple(clash)


def _striking(clash, lots, strikes):
    """The lots that strike one clash more, made of those that struck all clashes so far.

    Those in `strikes` do so already. What has one that does in it is left out.
    """
    kept = [lot for lot in lots if _meets(lot, clash)]
    found = list(kept)
    for lot in lots:
        if not _meets(lot, clash):
            longer = [tuple(sorted([*lot, at])) for at in clash]
            found.extend([more for more in longer if not _has_one_of(more, kept + strikes)])
    return found


def _meets(lot, clash):
    """Whether a lot has something of a clash."""
    return any([at in clash for at in lot])


def _has_one_of(lot, others):
    """Whether all of one of the others is in a lot."""
    return any([all([at in lot for at in other]) for other in others])
