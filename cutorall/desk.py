"""The desk, on which ties are laid and taken away, cells fixed and freed, and questions watched."""

from cutorall.basics import is_integer, is_number_below, is_value
from cutorall.books import Book
from cutorall.errors import InvalidBook, InvalidMove, InvalidNumber, InvalidQuestion, NothingToUndo
from cutorall.puzzles import Puzzle, free_cells, is_tie, put_in
from cutorall.questions import answer_of, claim_holds, paper_of

MOST_CELLS = 9


def _is_cell_of(value, cells):
    """Whether value, any value at all, is one of the cells."""
    return is_integer(value) and value in cells


def _behind(puzzle, start, move):
    """The pair of the puzzle and the start behind the move, None if it is no move ahead of it."""
    if not isinstance(move, tuple) or not 2 <= len(move) <= 4:
        return None
    word, what = move[:2]
    free = free_cells(puzzle, start)
    if word == "tie" and is_tie(move[1:], puzzle.book, puzzle.cell_count):
        return puzzle.with_tie(move[1:]), start
    if word == "take" and len(move) == 2 and is_number_below(what, len(puzzle.ties)):
        return puzzle.without(what), start
    if word == "fix" and len(move) == 3 and _is_cell_of(what, free) and is_value(move[2]):
        return puzzle, put_in(start, what, move[2])
    if word == "free" and len(move) == 2 and _is_cell_of(what, [cell for cell, _ in start]):
        return puzzle, tuple([pair for pair in start if pair[0] != what])
    return None


class Desk:
    """A puzzle over the book, at first without ties, a start, at first (), and the questions that are watched."""

    def __init__(self, book, cell_count):
        if not isinstance(book, Book):
            raise InvalidBook(book)
        if not is_number_below(cell_count, MOST_CELLS + 1):
            raise InvalidNumber(cell_count)
        self._puzzle = Puzzle(book, cell_count, ())
        self._start = ()
        # The pairs (claim, paper) of the watched questions, in the order in which they were watched.
        self._kept = {}
        # The triples (move, puzzle, start) of the moves, with the puzzle and the start ahead of them.
        self._done = []
        self._undone = []
        self._events = []

    def puzzle(self):
        """The puzzle as it is now."""
        return self._puzzle

    def start(self):
        """The start as it is now."""
        return self._start

    def move(self, move):
        """Does the move; answers the report."""
        behind = _behind(self._puzzle, self._start, move)
        if behind is None:
            raise InvalidMove(move)
        self._undone = []
        return self._do("move", move, behind)

    def undo(self):
        """Undoes the last move that is done; answers the report."""
        if len(self._done) == 0:
            raise NothingToUndo("undo")
        move, puzzle, start = self._done.pop()
        self._undone.append(move)
        return self._stand("undo", None, puzzle, start)

    def redo(self):
        """Does again the move that was undone last; answers the report."""
        if len(self._undone) == 0:
            raise NothingToUndo("redo")
        move = self._undone.pop()
        return self._do("redo", move, _behind(self._puzzle, self._start, move))

    def _do(self, word, move, behind):
        """Does the move, behind which puzzle and start are these; answers the report."""
        self._done.append((move, self._puzzle, self._start))
        puzzle, start = behind
        return self._stand(word, move if word == "move" else None, puzzle, start)

    def _stand(self, word, value, puzzle, start):
        """Takes over the puzzle and the start; answers the report."""
        self._puzzle = puzzle
        self._start = start
        report = [self._renewed(question) for question in self.watched()]
        self._note(word, value, self.watched())
        return tuple(report)

    def _renewed(self, question):
        """Keeps the answer to the watched question as it is now, and a paper of it; answers its triple."""
        claim, paper = self._kept[question]
        now = answer_of(self._puzzle, self._start, question)
        if now == claim and claim_holds(self._puzzle, self._start, question, claim, paper):
            return question, "kept", claim
        self._kept[question] = (now, paper_of(self._puzzle, self._start, question))
        return question, "renewed" if now == claim else "changed", now

    def _note(self, word, value, questions):
        """Notes what was done, and what is kept of these questions behind it."""
        self._events.append((word, value, tuple([(question,) + self._kept[question] for question in questions])))

    def done(self):
        """The moves that are done and not undone, in order."""
        return tuple([move for move, _, _ in self._done])

    def watch(self, question):
        """Watches the question behind the others, unless it is watched; answers its claim."""
        if question not in self.watched():
            # What is no question is told by answer_of.
            claim = answer_of(self._puzzle, self._start, question)
            self._kept[question] = (claim, paper_of(self._puzzle, self._start, question))
            self._note("watch", question, (question,))
        return self.claim(question)

    def leave(self, question):
        """Watches the question no longer."""
        self._check_watched(question)
        del self._kept[question]
        self._note("leave", question, ())

    def _check_watched(self, question):
        """Raises the error of a question that is not watched."""
        if question not in self.watched():
            raise InvalidQuestion(question)

    def watched(self):
        """The watched questions, in order."""
        return tuple(self._kept)

    def claim(self, question):
        """The answer to the watched question."""
        self._check_watched(question)
        return self._kept[question][0]

    def paper_for(self, question):
        """The paper that is kept of the answer to the watched question."""
        self._check_watched(question)
        return self._kept[question][1]

    def events(self):
        """Triples (word, value, kept) of what was done; kept has (question, claim, paper) for each claim told by it."""
        return tuple(self._events)

    def keep(self, papers):
        """Puts papers, each of which holds, in the place of those that were noted behind what was done last."""
        word, value, kept = self._events.pop()
        self._events.append((word, value, tuple([one[:2] + (paper,) for one, paper in zip(kept, papers)])))
        for (question, claim, _), paper in zip(kept, papers):
            self._kept[question] = (claim, paper)
