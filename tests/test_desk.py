"""Points [23] and [24] and "cutorall/desk.py" in the interface."""

import inspect
import itertools
import random
import unittest

from cutorall import desk as desk_module
from cutorall.books import Book
from cutorall.desk import Desk
from cutorall.errors import InvalidBook, InvalidMove, InvalidNumber, InvalidQuestion, NothingToUndo, PriceError
from cutorall.prices import Price
from cutorall.puzzles import Puzzle
from cutorall.questions import answer_of, claim_holds, paper_of
from tests.cases import Case, is_plain, is_plain_throughout
from tests.samples import LIKE, RATHER_YES, SKEW, UNLIKE, many_books
from tests.strange import AlwaysEqual, any_values
from tests.test_questions import QUESTIONS

LEAST, SETTLED, SURE = QUESTIONS
RATHER_NO = Price(1, (0, 2))


def is_move(puzzle, start, move):
    """Whether it is a move, told as [23] tells it."""
    if type(move) is not tuple or not move or type(move[0]) is not str:
        return False
    word, parts = move[0], move[1:]
    if word == "tie" and len(parts) == 3:
        price, cells, times = parts
        if not is_plain(price) or not 0 <= price < len(puzzle.book) or type(cells) is not tuple:
            return False
        right = [is_plain(cell) and 0 <= cell < puzzle.cell_count for cell in cells]
        return all(right) and len(cells) == puzzle.book.prices[price].size and is_plain(times) and times >= 1
    if len(parts) not in (1, 2) or not is_plain(parts[0]) or parts[0] < 0:
        return False
    fixed = parts[0] in dict(start)
    if word == "fix" and len(parts) == 2:
        return parts[0] < puzzle.cell_count and not fixed and is_plain(parts[1]) and parts[1] in (0, 1)
    if len(parts) == 2:
        return False
    return parts[0] < len(puzzle.ties) if word == "take" else word == "free" and fixed


class Model:
    """A desk that remembers every position."""

    def __init__(self, book, cell_count):
        self.book, self.cell_count = book, cell_count
        self.positions = [((), ())]
        self.moves = []
        self.undone = []
        self.kept = {}

    def now(self):
        ties, start = self.positions[-1]
        return Puzzle(self.book, self.cell_count, ties), start

    def do(self, move):
        ties, start = self.positions[-1]
        word, parts = move[0], move[1:]
        if word == "tie":
            ties = ties + (parts,)
        elif word == "take":
            ties = tuple([tie for number, tie in enumerate(ties) if number != parts[0]])
        elif word == "fix":
            start = tuple(sorted(start + (parts,)))
        else:
            start = tuple([pair for pair in start if pair[0] != parts[0]])
        self.positions.append((ties, start))
        self.moves.append(move)

    def move(self, move):
        self.do(move)
        self.undone = []

    def undo(self):
        self.positions.pop()
        self.undone.append(self.moves.pop())

    def redo(self):
        self.do(self.undone.pop())


def some_move(source, puzzle, start):
    """Some move that can be done there, None if there is none of the word that is chosen."""
    word = source.choice(("tie", "tie", "tie", "take", "fix", "fix", "free"))
    free = [cell for cell in range(puzzle.cell_count) if cell not in dict(start)]
    if word == "tie" and puzzle.cell_count:
        price = source.randrange(len(puzzle.book))
        cells = tuple([source.randrange(puzzle.cell_count) for _ in range(puzzle.book.prices[price].size)])
        return "tie", price, cells, source.randint(1, 3)
    if word == "take" and puzzle.ties:
        return "take", source.randrange(len(puzzle.ties))
    if word == "fix" and free:
        return "fix", source.choice(free), source.randint(0, 1)
    if word == "free" and start:
        return "free", source.choice(start)[0]
    return None


class DeskCase(Case):

    def assert_state(self, desk, model):
        """Everything that can be asked of the desk is as the model tells."""
        puzzle, start = model.now()
        self.assertTrue(desk.puzzle() == puzzle)
        self.assert_same(desk.start(), start)
        self.assert_same(desk.done(), tuple(model.moves))
        self.assert_same(desk.watched(), tuple(model.kept))
        for question in model.kept:
            claim, paper = model.kept[question]
            self.assert_same(desk.claim(question), claim)
            self.assert_same(desk.paper_for(question), paper)
            self.assertEqual(claim, answer_of(puzzle, start, question))
            self.assertIs(claim_holds(puzzle, start, question, claim, paper), True)

    def assert_report(self, desk, model, report):
        """The report tells by its words what became of the papers that the model has kept."""
        puzzle, start = model.now()
        self.assertIs(type(report), tuple)
        self.assertTrue(is_plain_throughout(report))
        self.assertEqual([question for question, _, _ in report], list(model.kept))
        for question, word, claim in report:
            before, paper = model.kept[question]
            self.assertEqual(claim, answer_of(puzzle, start, question))
            if claim != before:
                self.assertEqual(word, "changed")
            elif claim_holds(puzzle, start, question, claim, paper):
                self.assertEqual(word, "kept")
                self.assertEqual(desk.paper_for(question), paper)
            else:
                self.assertEqual(word, "renewed")
                self.assertNotEqual(desk.paper_for(question), paper)
            model.kept[question] = (claim, desk.paper_for(question))
        return [word for _, word, _ in report]

    def watch(self, desk, model, question):
        claim = desk.watch(question)
        if question not in model.kept:
            model.kept[question] = (claim, desk.paper_for(question))
        self.assert_same(claim, model.kept[question][0])

    def everything(self, desk):
        """All that can be asked of the desk."""
        kept = [(question, desk.claim(question), desk.paper_for(question)) for question in desk.watched()]
        return desk.puzzle().ties, desk.puzzle().cell_count, desk.start(), desk.done(), kept

    def assert_refused(self, error, value, desk, call):
        """The call raises the error and changes nothing."""
        before = self.everything(desk)
        self.assert_wrong(error, value, call, value)
        self.assertEqual(self.everything(desk), before)


class MakeTest(DeskCase):

    def test_interface(self):
        self.assertEqual(Desk.__module__, "cutorall.desk")
        self.assertIs(desk_module.Desk, Desk)
        parameters = {"__init__": ["book", "cell_count"], "puzzle": [], "start": [], "move": ["move"], "undo": [],
                      "redo": [], "done": [], "watch": ["question"], "leave": ["question"], "watched": [],
                      "claim": ["question"], "paper_for": ["question"]}
        for name in parameters:
            self.assertIn(name, vars(Desk))
            self.assertEqual(list(inspect.signature(vars(Desk)[name]).parameters), ["self"] + parameters[name])
        desk = Desk(book=Book([LIKE]), cell_count=2)
        desk.watch(question=LEAST)
        desk.move(move=("fix", 0, 1))
        self.assertEqual((desk.claim(question=LEAST), desk.paper_for(question=LEAST)[0]), (("least", 0), (1, 0)))
        self.assertIsNone(desk.leave(question=LEAST))
        with self.assertRaises(TypeError):
            iter(desk)

    def test_a_new_desk(self):
        for cell_count in range(10):
            book = Book([LIKE, SKEW])
            desk = Desk(book, cell_count)
            self.assertTrue(desk.puzzle() == Puzzle(book, cell_count, ()))
            self.assert_same((desk.start(), desk.done(), desk.watched()), ((), (), ()))

    def test_wrong_books_and_counts(self):
        book = Book([LIKE])
        for value in (*any_values(), AlwaysEqual(), 9, 10, 100):
            if type(value) is not Book:
                for count in (0, 10, value, None):
                    self.assert_wrong(InvalidBook, value, Desk, value, count)
                    self.assert_wrong(InvalidBook, value, Desk, cell_count=count, book=value)
            if is_plain(value) and 0 <= value <= 9:
                self.assertEqual(Desk(book, value).puzzle().cell_count, value)
            else:
                self.assert_wrong(InvalidNumber, value, Desk, book, value)
        self.assert_wrong(InvalidNumber, True, Desk, book, True)
        self.assert_wrong(InvalidNumber, 10, Desk, book, 10)

    def test_two_desks_have_nothing_in_common(self):
        book = Book([LIKE])
        one, other = Desk(book, 2), Desk(book, 2)
        one.watch(LEAST)
        one.move(("tie", 0, (0, 1), 1))
        one.move(("fix", 0, 1))
        self.assertEqual((other.watched(), other.done(), other.start(), other.puzzle().ties), ((), (), (), ()))


class MoveTest(DeskCase):

    def test_each_word(self):
        desk = Desk(Book([LIKE, RATHER_YES]), 3)
        self.assert_same(desk.move(("tie", 0, (0, 1), 2)), ())
        desk.move(("tie", 1, (2,), 1))
        desk.move(("tie", 0, (2, 2), 1))
        self.assert_same(desk.puzzle().ties, ((0, (0, 1), 2), (1, (2,), 1), (0, (2, 2), 1)))
        desk.move(("take", 0))
        self.assert_same(desk.puzzle().ties, ((1, (2,), 1), (0, (2, 2), 1)))
        desk.move(("fix", 2, 0))
        desk.move(("fix", 0, 1))
        self.assert_same(desk.start(), ((0, 1), (2, 0)))
        desk.move(("free", 2))
        self.assert_same(desk.start(), ((0, 1),))
        self.assert_same(desk.done(), (("tie", 0, (0, 1), 2), ("tie", 1, (2,), 1), ("tie", 0, (2, 2), 1), ("take", 0),
                                       ("fix", 2, 0), ("fix", 0, 1), ("free", 2)))

    def test_what_was_asked_before_stays_as_it_was(self):
        desk = Desk(Book([LIKE]), 2)
        puzzle, start, done, watched = desk.puzzle(), desk.start(), desk.done(), desk.watched()
        desk.watch(LEAST)
        desk.move(("tie", 0, (0, 1), 1))
        desk.move(("fix", 1, 1))
        self.assertEqual((puzzle.ties, start, done, watched), ((), (), (), ()))

    def test_refused_moves(self):
        desk = Desk(Book([LIKE, RATHER_YES]), 3)
        for question in QUESTIONS:
            desk.watch(question)
        desk.move(("tie", 0, (0, 1), 2))
        desk.move(("fix", 1, 0))
        strange = [("tie", 2, (0,), 1), ("tie", 1, (3,), 1), ("tie", 1, (0, 1), 1), ("tie", 0, (0,), 1), ("tie", 1, (0,), 0),
                   ("tie", 1, [0], 1), ["tie", 1, (0,), 1], ("tie", True, (0,), 1), ("tie", 1, (False,), 1),
                   ("tie", 1, (0,), True), ("tie", (1, (0,), 1)), ("tie", 1, (0,)), ("tie", 1, (0,), 1, 1), ("tie", -1, (0,), 1),
                   ("take", 1), ("take", -1), ("take", False), ("take",), ("take", 0, 0), ("take", None), ["take", 0],
                   ("fix", 1, 0), ("fix", 1, 1), ("fix", 3, 0), ("fix", -1, 0), ("fix", 0, 2), ("fix", 0, True), ("fix", False, 0),
                   ("fix", 0), ("fix", 0, 0, 0), ("fix", (0, 1)), ["fix", 0, 0], ("free", 0), ("free", 2), ("free", 3),
                   ("free", True), ("free",), ("free", 1, 0), ["free", 1], ("free", (1, 0)), ("Fix", 0, 0), ("", 0), ("undo",),
                   ("move", ("fix", 0, 0)), (("fix", 0, 0),), ("fix", "0", 0), ("fix", None, 0), (None, 0, 0), ("fix", (0,), 0),
                   ("take", 1, (0,), 1), ("fix", 0, (0, 1), 1), (None, 1, (0,), 1), ("tie ", 1, (0,), 1), (("tie",), 1, (0,), 1)]
        for value in (*any_values(), *strange):
            self.assertFalse(is_move(desk.puzzle(), desk.start(), value))
            self.assert_refused(InvalidMove, value, desk, desk.move)
        self.assertEqual(desk.undo()[0][0], LEAST)
        # What was undone may still be done again after a refused move.
        self.assert_refused(InvalidMove, ("take", 7), desk, desk.move)
        desk.redo()
        self.assert_same(desk.start(), ((1, 0),))

    def test_a_desk_without_cells(self):
        desk = Desk(Book([LIKE, RATHER_YES]), 0)
        for question in QUESTIONS:
            desk.watch(question)
        for move in (("tie", 1, (0,), 1), ("tie", 1, (), 1), ("fix", 0, 0), ("free", 0), ("take", 0)):
            self.assert_refused(InvalidMove, move, desk, desk.move)
        for call in (desk.undo, desk.redo):
            with self.assertRaises(NothingToUndo):
                call()
        self.assert_same(tuple([desk.claim(question) for question in QUESTIONS]), (("least", 0), ("settled", ()), ("sure", ())))

    def test_nine_cells(self):
        source = random.Random(101)
        desk = Desk(Book([UNLIKE, SKEW]), 9)
        model = Model(Book([UNLIKE, SKEW]), 9)
        for question in QUESTIONS:
            self.watch(desk, model, question)
        for _ in range(25):
            move = some_move(source, *model.now())
            if move is not None:
                report = desk.move(move)
                model.move(move)
                self.assert_report(desk, model, report)
        self.assert_state(desk, model)


class UndoTest(DeskCase):

    def test_nothing_to_undo_or_redo(self):
        desk = Desk(Book([LIKE]), 2)
        desk.watch(LEAST)
        for _ in range(2):
            for name in ("undo", "redo"):
                before = self.everything(desk)
                self.assert_error(NothingToUndo, {"word": name}, getattr(desk, name))
                self.assertEqual(self.everything(desk), before)
        desk.move(("fix", 0, 1))
        self.assert_error(NothingToUndo, {"word": "redo"}, desk.redo)
        desk.undo()
        self.assert_error(NothingToUndo, {"word": "undo"}, desk.undo)
        desk.redo()
        self.assert_error(NothingToUndo, {"word": "redo"}, desk.redo)
        self.assert_same(desk.done(), (("fix", 0, 1),))

    def test_a_tie_that_was_taken_away_comes_back_to_its_place(self):
        desk = Desk(Book([LIKE, RATHER_YES]), 2)
        for move in (("tie", 0, (0, 1), 1), ("tie", 1, (0,), 2), ("tie", 1, (1,), 3), ("take", 1)):
            desk.move(move)
        desk.undo()
        self.assert_same(desk.puzzle().ties, ((0, (0, 1), 1), (1, (0,), 2), (1, (1,), 3)))
        desk.redo()
        self.assert_same(desk.puzzle().ties, ((0, (0, 1), 1), (1, (1,), 3)))

    def test_undo_and_redo_over_all_moves(self):
        desk = Desk(Book([LIKE, RATHER_YES]), 2)
        moves = (("tie", 0, (0, 1), 1), ("fix", 0, 1), ("tie", 1, (1,), 1), ("take", 0), ("free", 0))
        states = [(desk.puzzle(), desk.start())]
        for move in moves:
            desk.move(move)
            states.append((desk.puzzle(), desk.start()))
        for number in reversed(range(5)):
            self.assert_same(desk.undo(), ())
            self.assertEqual((desk.puzzle() == states[number][0], desk.start()), (True, states[number][1]))
            self.assert_same(desk.done(), moves[:number])
        for number in range(5):
            self.assert_same(desk.redo(), ())
            self.assertEqual((desk.puzzle() == states[number + 1][0], desk.start()), (True, states[number + 1][1]))
            self.assert_same(desk.done(), moves[:number + 1])

    def test_a_new_move_ends_what_may_be_done_again(self):
        desk = Desk(Book([LIKE]), 3)
        for move in (("fix", 0, 1), ("fix", 1, 1), ("fix", 2, 1)):
            desk.move(move)
        desk.undo()
        desk.undo()
        desk.redo()
        desk.move(("free", 1))
        self.assert_error(NothingToUndo, {"word": "redo"}, desk.redo)
        self.assert_same(desk.done(), (("fix", 0, 1), ("fix", 1, 1), ("free", 1)))
        desk.undo()
        desk.redo()
        self.assert_same(desk.start(), ((0, 1),))

    def test_watching_and_leaving_end_nothing_and_are_not_undone(self):
        desk = Desk(Book([LIKE, RATHER_YES]), 2)
        desk.watch(SURE)
        desk.move(("tie", 1, (0,), 1))
        desk.move(("fix", 0, 0))
        desk.undo()
        self.assert_same(desk.watch(LEAST), ("least", 0))
        self.assertIsNone(desk.leave(SURE))
        self.assert_same(desk.redo(), ((LEAST, "changed", ("least", 2)),))
        desk.watch(SURE)
        self.assert_same(desk.watched(), (LEAST, SURE))
        desk.undo()
        desk.undo()
        self.assert_same(desk.watched(), (LEAST, SURE))
        self.assert_same(desk.done(), ())


class WatchTest(DeskCase):

    def test_watching_in_each_order(self):
        for order in itertools.permutations(QUESTIONS):
            desk = Desk(Book([RATHER_YES]), 1)
            desk.move(("tie", 0, (0,), 1))
            for number, question in enumerate(order):
                self.assert_same(desk.watch(question), answer_of(desk.puzzle(), (), question))
                self.assert_same(desk.watched(), order[:number + 1])
            papers = [desk.paper_for(question) for question in order]
            self.assert_same(desk.watch(order[0]), desk.claim(order[0]))
            self.assert_same(desk.watched(), order)
            self.assertEqual([desk.paper_for(question) for question in order], papers)
            self.assertIsNone(desk.leave(order[0]))
            self.assert_same(desk.watched(), order[1:])
            desk.watch(order[0])
            self.assert_same(desk.watched(), order[1:] + order[:1])
            self.assertEqual([triple[0] for triple in desk.undo()], list(order[1:] + order[:1]))

    def test_wrong_questions(self):
        desk = Desk(Book([RATHER_YES]), 2)
        desk.watch(LEAST)
        strange = (["least"], ("Least",), "least", ("least", "least"), (("least",),), ["sure"], {"sure"}, [("least",)])
        for value in (*any_values(), *strange):
            for call in (desk.watch, desk.leave, desk.claim, desk.paper_for):
                self.assert_refused(InvalidQuestion, value, desk, call)
        for question in (SURE, SETTLED):
            for call in (desk.leave, desk.claim, desk.paper_for):
                self.assert_refused(InvalidQuestion, question, desk, call)
        desk.leave(LEAST)
        for call in (desk.leave, desk.claim, desk.paper_for):
            self.assert_refused(InvalidQuestion, LEAST, desk, call)

    def test_kept_renewed_and_changed(self):
        desk = Desk(Book([RATHER_YES, RATHER_NO, Price(1, (5, 5)), Price(1, (-5, -5))]), 2)
        desk.watch(LEAST)
        desk.watch(SETTLED)
        desk.watch(SURE)
        # The first cell becomes yes by a tie that costs nothing at yes.
        report = desk.move(("tie", 0, (0,), 1))
        self.assertEqual([word for _, word, _ in report], ["renewed", "changed", "changed"])
        self.assertEqual([claim for _, _, claim in report], [("least", 0), ("settled", ((0, 1),)), ("sure", ((0, 1),))])
        # The same cell fixed at its value: no answer but what is settled is another one.
        report = desk.move(("fix", 0, 1))
        self.assertEqual([word for _, word, _ in report][1], "changed")
        self.assertEqual([claim for _, _, claim in report], [("least", 0), ("settled", ()), ("sure", ((0, 1),))])
        # A tie that costs 5 in each filling changes the least total, and the paper of what is sure with it.
        report = desk.move(("tie", 2, (1,), 1))
        self.assertEqual([word for _, word, _ in report], ["changed", "kept", "renewed"])
        report = desk.undo()
        self.assertEqual([word for _, word, _ in report], ["changed", "kept", "renewed"])

    def test_the_word_hangs_on_the_paper_that_is_kept(self):
        source = random.Random(102)
        words = {"kept": 0, "renewed": 0, "changed": 0}
        for number, book in enumerate(many_books(49, 103)):
            desk, model = Desk(book, number % 5), Model(book, number % 5)
            for question in QUESTIONS:
                self.watch(desk, model, question)
            for _ in range(8):
                move = some_move(source, *model.now())
                if move is None:
                    continue
                report = desk.move(move)
                model.move(move)
                for word in self.assert_report(desk, model, report):
                    words[word] += 1
        self.assertGreater(min(words.values()), 50)

    def test_papers_and_claims_are_those_of_questions(self):
        desk = Desk(Book([UNLIKE, RATHER_YES]), 3)
        desk.move(("tie", 0, (0, 1), 1))
        for question in QUESTIONS:
            desk.watch(question)
            self.assertEqual(desk.claim(question), answer_of(desk.puzzle(), desk.start(), question))
            self.assertEqual(type(desk.paper_for(question)), type(paper_of(desk.puzzle(), desk.start(), question)))


class LongTest(DeskCase):

    def some_step(self, source, desk, model):
        """Does something at the desk and the model; some of it is refused."""
        choice = source.randrange(12)
        if choice < 5:
            move = some_move(source, *model.now())
            if move is None:
                move = ("free", 9)
                self.assert_refused(InvalidMove, move, desk, desk.move)
                return
            report = desk.move(move)
            model.move(move)
            self.assert_report(desk, model, report)
        elif choice < 9:
            name, left = ("undo", model.moves) if choice < 7 else ("redo", model.undone)
            if not left:
                self.assert_error(NothingToUndo, {"word": name}, getattr(desk, name))
                return
            report = getattr(desk, name)()
            getattr(model, name)()
            self.assert_report(desk, model, report)
        elif choice < 11:
            self.watch(desk, model, source.choice(QUESTIONS))
        else:
            question = source.choice(QUESTIONS)
            if question in model.kept:
                self.assertIsNone(desk.leave(question))
                del model.kept[question]
            else:
                self.assert_wrong(InvalidQuestion, question, desk.leave, question)

    def test_many_desks(self):
        source = random.Random(104)
        for number, book in enumerate(many_books(35, 105)):
            desk, model = Desk(book, number % 5), Model(book, number % 5)
            for _ in range(40):
                self.some_step(source, desk, model)
                self.assert_state(desk, model)

    def test_equal_calls_tell_the_same(self):
        for number, (one, other) in enumerate(zip(many_books(14, 106), many_books(14, 106))):
            desks = [Desk(one, number % 4), Desk(other, number % 4)]
            told = []
            for desk in desks:
                source = random.Random(number)
                answers = []
                for _ in range(25):
                    answers.append(self.some_answer(source, desk))
                told.append((answers, self.everything(desk)))
            self.assertEqual(told[0], told[1])

    def some_answer(self, source, desk):
        """What the desk answers to something, or the error that it raises."""
        choice = source.randrange(6)
        try:
            if choice < 3:
                return desk.move(some_move(source, desk.puzzle(), desk.start()))
            if choice == 3:
                return desk.undo()
            return desk.redo() if choice == 4 else desk.watch(source.choice(QUESTIONS))
        except PriceError as error:
            return type(error), vars(error)


if __name__ == "__main__":
    unittest.main()
