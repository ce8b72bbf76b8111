"""Questions about a puzzle and a start, claims that answer them, and papers that show what is claimed."""

from cutorall.basics import is_integer
from cutorall.cheapest import floor_paper, least_total, some_cheapest, sure_cells
from cutorall.doubled import settled
from cutorall.errors import InvalidQuestion, InvalidStart
from cutorall.floors import floor_holds
from cutorall.puzzles import free_cells, is_filling, is_start, kept, put_in, total_of

WORDS = ("least", "settled", "sure")


def is_question(value):
    """Whether value is a question."""
    return isinstance(value, tuple) and len(value) == 1 and value[0] in WORDS


def _check(puzzle, start, question):
    """Raises the error of what is no start of the puzzle or no question."""
    if not is_start(puzzle, start):
        raise InvalidStart(start)
    if not is_question(question):
        raise InvalidQuestion(question)


def answer_of(puzzle, start, question):
    """The claim that answers the question."""
    _check(puzzle, start, question)
    if question == ("least",):
        return "least", least_total(puzzle, start)
    if question == ("settled",):
        return "settled", settled(puzzle, start)
    return "sure", sure_cells(puzzle, start)


def _opposites(start, sure):
    """For each of the sure pairs that is not in the start, the start with the opposite value put in."""
    return [put_in(start, cell, 1 - value) for cell, value in sure if (cell, value) not in start]


def _have_both(fillings, cell):
    """Whether the cell has both values in the fillings."""
    return sorted(set([filling[cell] for filling in fillings])) == [0, 1]


def _paper_of_sure(puzzle, start):
    """Some paper of the answer to ("sure",)."""
    sure = sure_cells(puzzle, start)
    papers = [floor_paper(puzzle, other) for other in [start] + _opposites(start, sure)]
    found = [some_cheapest(puzzle, start)]
    for cell in free_cells(puzzle, sure):
        if not _have_both(found, cell):
            found.append(some_cheapest(puzzle, put_in(start, cell, 1 - found[0][cell])))
    return total_of(puzzle, found[0]), tuple(papers), tuple(found)


def paper_of(puzzle, start, question):
    """Some paper of the claim that answers the question."""
    _check(puzzle, start, question)
    if question == ("least",):
        return some_cheapest(puzzle, start), floor_paper(puzzle, start)
    if question == ("settled",):
        return ()
    return _paper_of_sure(puzzle, start)


def _is_kept_at(puzzle, start, value, total):
    """Whether value, any value at all, is a filling that keeps the start and has this total."""
    return is_filling(puzzle, value) and kept(start, value) == value and total_of(puzzle, value) == total


def _least_holds(puzzle, start, total, paper):
    """Whether paper shows that total, any value at all, is the least total."""
    if not is_integer(total) or not isinstance(paper, tuple) or len(paper) != 2:
        return False
    return _is_kept_at(puzzle, start, paper[0], total) and floor_holds(puzzle, start, total, paper[1])


def _floors_hold(puzzle, starts, totals, papers):
    """Whether papers, any value at all, is a tuple of a floor paper for each of the starts and its total."""
    if not isinstance(papers, tuple) or len(papers) != len(starts):
        return False
    rows = list(zip(starts, totals, papers))
    return all([floor_holds(puzzle, start, total, paper) for start, total, paper in rows])


def _found_hold(puzzle, start, sure, total, found):
    """Whether found, any value at all, are fillings of this total in which all cells but the sure ones vary."""
    if not isinstance(found, tuple) or len(found) == 0:
        return False
    if not all([_is_kept_at(puzzle, start, filling, total) for filling in found]):
        return False
    return all([_have_both(found, cell) for cell in free_cells(puzzle, sure)])


def _sure_holds(puzzle, start, sure, paper):
    """Whether paper shows that sure, any value at all, are just the cells that are sure."""
    if not is_start(puzzle, sure) or not all([pair in sure for pair in start]):
        return False
    if not isinstance(paper, tuple) or len(paper) != 3 or not is_integer(paper[0]):
        return False
    total, papers, found = paper
    opposites = _opposites(start, sure)
    if not _found_hold(puzzle, start, sure, total, found):
        return False
    return _floors_hold(puzzle, [start] + opposites, [total] + [total + 1] * len(opposites), papers)


def claim_holds(puzzle, start, question, claim, paper):
    """Whether claim is one that answers the question, and paper a paper of it."""
    _check(puzzle, start, question)
    if not isinstance(claim, tuple) or len(claim) != 2 or claim[0] != question[0]:
        return False
    if question == ("least",):
        return _least_holds(puzzle, start, claim[1], paper)
    if question == ("settled",):
        # Pairs of a start are plain integers, so nothing but the right pairs is equal to them.
        return is_start(puzzle, claim[1]) and claim[1] == settled(puzzle, start) and paper == ()
    return _sure_holds(puzzle, start, claim[1], paper)
