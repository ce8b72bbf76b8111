"""Sides: whether a cut finds the least over a book or everything is carried into it, and a paper of this."""

from cutorall.basics import is_number_below, is_row
from cutorall.kinds import FIXED_WORDS, FREE_WORDS, fault_of, fixed_kinds, free_kinds, rows_to_show, shows


def _words(fixed):
    """The kinds of which one puts a book on the side of the cut."""
    return FIXED_WORDS if fixed else FREE_WORDS


def side(book, *, fixed=False):
    """("cut", words) with the kinds of the book, ("all",) if it is of none of them."""
    kinds = fixed_kinds(book) if fixed else free_kinds(book)
    return ("cut", kinds) if len(kinds) > 0 else ("all",)


def side_paper(book, *, fixed=False):
    """() for "cut", for "all" the fault of each kind."""
    if side(book, fixed=fixed) != ("all",):
        return ()
    return tuple([fault_of(book, word) for word in _words(fixed)])


def _is_fault(book, word, value):
    """Whether value, any value at all, shows by a price of the book that the book is not of the kind."""
    if not isinstance(value, tuple) or len(value) != 1 + rows_to_show(word):
        return False
    if not is_number_below(value[0], len(book)):
        return False
    price = book.prices[value[0]]
    shown = value[1:]
    return all([is_row(row, price.size) for row in shown]) and shows(price, word, shown)


def side_holds(book, claim, paper, *, fixed=False):
    """Whether claim is the side of the book and paper a paper of it."""
    if claim != side(book, fixed=fixed) or not isinstance(paper, tuple):
        return False
    if claim != ("all",):
        return len(paper) == 0
    return len(paper) == 3 and all([_is_fault(book, word, fault) for word, fault in zip(_words(fixed), paper)])
