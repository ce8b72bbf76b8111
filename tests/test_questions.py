"""Point [22] and "cutorall/questions.py" in the interface."""

import inspect
import itertools
import random
import unittest

from cutorall import questions
from cutorall.books import Book
from cutorall.cheapest import floor_paper, least_total, sure_cells
from cutorall.doubled import settled
from cutorall.errors import InvalidQuestion, InvalidStart
from cutorall.floors import floor_holds
from cutorall.puzzles import Puzzle, is_start
from cutorall.questions import answer_of, claim_holds, is_question, paper_of
from tests.cases import Case, is_plain
from tests.samples import (
    LIKE, RATHER_YES, SKEW, UNLIKE, bent_puzzle, cheapest_of, common, fillings_that_keep, many_books, many_puzzles,
    price_of_kind, puzzle_over, some_starts, starts_of, total)
from tests.strange import any_values, rows
from tests.test_cheapest import triangle
from tests.test_floors import changed, put_in, right_floor

QUESTIONS = (("least",), ("settled",), ("sure",))


def true_claim(puzzle, start, question):
    """The one claim of this kind that is true, by all fillings."""
    least, fillings = cheapest_of(puzzle, start)
    told = {"least": least, "settled": settled(puzzle, start), "sure": common(fillings)}
    return question[0], told[question[0]]


def is_filling_at(puzzle, start, value, wanted):
    """Whether value is a filling that keeps the start and has this total."""
    if type(value) is not tuple or not all(map(is_plain, value)) or value not in fillings_that_keep(puzzle, start):
        return False
    return total(puzzle, value) == wanted


def right_sure(puzzle, start, claimed, paper):
    """Whether claim and paper are such of ("sure",), told as [22] tells them."""
    if not is_start(puzzle, claimed) or not set(start) <= set(claimed):
        return False
    if type(paper) is not tuple or len(paper) != 3:
        return False
    told, papers, found = paper
    further = [pair for pair in claimed if pair not in start]
    if not is_plain(told) or type(papers) is not tuple or len(papers) != 1 + len(further):
        return False
    if type(found) is not tuple or not found or not all([is_filling_at(puzzle, start, row, told) for row in found]):
        return False
    for cell in range(puzzle.cell_count):
        if cell not in dict(claimed) and {row[cell] for row in found} != {0, 1}:
            return False
    if not right_floor(puzzle, start, told, papers[0]):
        return False
    starts = [put_in(start, cell, 1 - value) for cell, value in further]
    return all([right_floor(puzzle, other, told + 1, part) for other, part in zip(starts, papers[1:])])


def right_holds(puzzle, start, question, claim, paper):
    """Whether the claim and the paper hold, told as [22] tells it."""
    if type(claim) is not tuple or len(claim) != 2 or type(claim[0]) is not str or claim[0] != question[0]:
        return False
    if question == ("least",):
        if not is_plain(claim[1]) or type(paper) is not tuple or len(paper) != 2:
            return False
        return is_filling_at(puzzle, start, paper[0], claim[1]) and right_floor(puzzle, start, claim[1], paper[1])
    if question == ("settled",):
        return is_start(puzzle, claim[1]) and claim[1] == settled(puzzle, start) and paper == ()
    return right_sure(puzzle, start, claim[1], paper)


class QuestionCase(Case):

    def assert_answers(self, puzzle, start):
        """Each question is answered by what is true, with a paper that holds."""
        for question in QUESTIONS:
            claim = answer_of(puzzle, start, question)
            self.assert_same(claim, true_claim(puzzle, start, question))
            paper = paper_of(puzzle, start, question)
            self.assert_same(paper, tuple(paper))
            self.assertTrue(right_holds(puzzle, start, question, claim, paper))
            self.assertIs(claim_holds(puzzle, start, question, claim, paper), True)

    def assert_holds(self, puzzle, start, question, claim, paper):
        """It holds just as [22] tells, and then the claim is the true one."""
        found = claim_holds(puzzle, start, question, claim, paper)
        self.assertIs(found, right_holds(puzzle, start, question, claim, paper), (question, claim, paper))
        if found:
            self.assert_same(claim, true_claim(puzzle, start, question))
        return found


class IsQuestionTest(QuestionCase):

    def test_interface(self):
        functions = {"is_question": ["value"], "answer_of": ["puzzle", "start", "question"],
                     "paper_of": ["puzzle", "start", "question"],
                     "claim_holds": ["puzzle", "start", "question", "claim", "paper"]}
        for name in functions:
            function = getattr(questions, name)
            self.assertEqual(function.__module__, "cutorall.questions")
            self.assertEqual(list(inspect.signature(function).parameters), functions[name])
        puzzle = triangle()
        for question in QUESTIONS:
            claim = answer_of(puzzle=puzzle, start=(), question=question)
            paper = paper_of(puzzle=puzzle, start=(), question=question)
            self.assertIs(claim_holds(puzzle=puzzle, start=(), question=question, claim=claim, paper=paper), True)

    def test_the_three_questions_and_no_others(self):
        for question in QUESTIONS:
            self.assertIs(is_question(question), True)
            self.assertIs(is_question(value=question), True)
        strange = [["least"], ("least", "sure"), ("Least",), ("least ",), "least", ("",), (None,), (("least",),), ((),),
                   ("all no",), (1,), (["sure"],), ("sure", 0), ("sure", None), {"least"}]
        for value in (*any_values(), *strange):
            self.assertIs(is_question(value), False)


class AnswerTest(QuestionCase):

    def test_ordinary(self):
        puzzle = Puzzle(Book([LIKE, RATHER_YES]), 3, [(0, (0, 1), 2), (1, (2,), 1)])
        self.assert_same(answer_of(puzzle, (), ("least",)), ("least", 0))
        self.assert_same(answer_of(puzzle, (), ("settled",)), ("settled", ((2, 1),)))
        self.assert_same(answer_of(puzzle, ((0, 1),), ("settled",)), ("settled", ((1, 1), (2, 1))))
        self.assert_same(answer_of(puzzle, ((0, 1),), ("sure",)), ("sure", ((0, 1), (1, 1), (2, 1))))
        self.assert_same(paper_of(puzzle, (), ("settled",)), ())
        told, papers, found = paper_of(puzzle, (), ("sure",))
        self.assertEqual((told, len(papers), sorted(found)), (0, 2, [(0, 0, 1), (1, 1, 1)]))

    def test_no_cells_and_no_ties(self):
        for price in (LIKE, UNLIKE, SKEW):
            for cell_count in range(4):
                puzzle = Puzzle(Book([price]), cell_count, ())
                for start in starts_of(cell_count):
                    self.assert_answers(puzzle, start)

    def test_many_puzzles_and_starts(self):
        source = random.Random(91)
        for book in many_books(105, 92):
            puzzle = puzzle_over(source, book, source.randint(0, 5), source.randint(0, 6))
            for start in some_starts(puzzle.cell_count, source, 1):
                self.assert_answers(puzzle, start)
        for puzzle in many_puzzles(30):
            self.assert_answers(puzzle, ())

    def test_large_puzzles_on_the_side_of_the_cut(self):
        source = random.Random(93)
        rising = Book([price_of_kind(source, "rising", size, 9) for size in (1, 2, 3)])
        for puzzle in (bent_puzzle(source, 30, 100), puzzle_over(source, rising, 30, 100)):
            for start in ((), ((3, 1), (17, 0))):
                for question in QUESTIONS:
                    claim, paper = answer_of(puzzle, start, question), paper_of(puzzle, start, question)
                    self.assertIs(claim_holds(puzzle, start, question, claim, paper), True)
                self.assertEqual(answer_of(puzzle, start, ("least",)), ("least", least_total(puzzle, start)))
                self.assertEqual(answer_of(puzzle, start, ("sure",)), ("sure", sure_cells(puzzle, start)))

    def test_nine_cells(self):
        source = random.Random(94)
        puzzle = puzzle_over(source, Book([UNLIKE, SKEW, RATHER_YES]), 9, 40)
        for question in QUESTIONS:
            claim, paper = answer_of(puzzle, (), question), paper_of(puzzle, (), question)
            self.assertEqual(claim, true_claim(puzzle, (), question))
            self.assertIs(claim_holds(puzzle, (), question, claim, paper), True)


class ClaimTest(QuestionCase):

    def test_a_least_total_one_too_small_or_too_great(self):
        source = random.Random(95)
        for puzzle in many_puzzles(25, 4):
            for start in some_starts(puzzle.cell_count, source, 1):
                least = cheapest_of(puzzle, start)[0]
                filling, paper = paper_of(puzzle, start, ("least",))
                for number in (least - 1, least, least + 1):
                    for row in rows(puzzle.cell_count):
                        self.assert_holds(puzzle, start, ("least",), ("least", number), (row, paper))
                for other in (None, (), (filling,), (paper, filling), [filling, paper], (filling, paper, 0), (filling, None),
                              (list(filling), paper), (filling, list(paper)), filling, paper, (tuple(map(bool, filling)), paper)):
                    if puzzle.cell_count:
                        self.assertIs(claim_holds(puzzle, start, ("least",), ("least", least), other), False)

    def test_a_start_that_the_filling_does_not_keep(self):
        puzzle = Puzzle(Book([LIKE]), 2, [(0, (0, 1), 1)])
        paper = floor_paper(puzzle, ((0, 1),))
        for filling in rows(2):
            found = claim_holds(puzzle, ((0, 1),), ("least",), ("least", 0), (filling, paper))
            self.assertIs(found, filling == (1, 1))

    def test_all_claims_of_settled_and_of_sure(self):
        source = random.Random(96)
        for puzzle in many_puzzles(16, 3, 4):
            for start in some_starts(puzzle.cell_count, source, 2):
                for question in (("settled",), ("sure",)):
                    paper = paper_of(puzzle, start, question)
                    held = []
                    for other in starts_of(puzzle.cell_count):
                        held += [other] * self.assert_holds(puzzle, start, question, (question[0], other), paper)
                    self.assertEqual(held, [answer_of(puzzle, start, question)[1]])

    def test_settled_wants_the_empty_paper(self):
        puzzle = Puzzle(Book([RATHER_YES]), 2, [(0, (0,), 1)])
        claim = ("settled", ((0, 1),))
        self.assertIs(claim_holds(puzzle, (), ("settled",), claim, ()), True)
        for paper in ([], None, 0, False, "", ((),), (0,), ("flow", ())):
            self.assertIs(claim_holds(puzzle, (), ("settled",), claim, paper), False)
        for other in (((0, True),), ((False, 1),), [(0, 1)], ([0, 1],), (), None, ((0, 1), (1, 1)), ((0, 0),), ((1, 1),)):
            self.assertIs(claim_holds(puzzle, (), ("settled",), ("settled", other), ()), False)

    def test_the_parts_of_a_paper_of_sure(self):
        puzzle = Puzzle(Book([LIKE, RATHER_YES]), 4, [(0, (0, 1), 2), (1, (2,), 1), (0, (3, 0), 1)])
        start = ((3, 1),)
        claim = ("sure", ((0, 1), (1, 1), (2, 1), (3, 1)))
        self.assert_same(answer_of(puzzle, start, ("sure",)), claim)
        told, papers, found = paper_of(puzzle, start, ("sure",))
        self.assertEqual((told, len(papers), found), (0, 4, ((1, 1, 1, 1),)))
        self.assertIs(claim_holds(puzzle, start, ("sure",), claim, (told, papers, found)), True)
        self.assertIs(claim_holds(puzzle, start, ("sure",), claim, (told, papers, found + found)), True)
        for one, other in itertools.combinations(range(4), 2):
            swapped = list(papers)
            swapped[one], swapped[other] = papers[other], papers[one]
            self.assert_holds(puzzle, start, ("sure",), claim, (told, tuple(swapped), found))
        wrong = [(told + 1, papers, found), (told - 1, papers, found), (False, papers, found), (told, papers[:-1], found),
                 (told, papers + papers[:1], found), (told, list(papers), found), (told, papers, ()), (told, papers, [found[0]]),
                 (told, papers, ([1, 1, 1, 1],)), (told, papers, ((1, 1, 1, True),)), (told, papers, ((0, 0, 1, 0),)),
                 (told, papers, found + ((1, 1, 0, 1),)), (told, papers), (papers, told, found), [told, papers, found],
                 (told, papers, found, ()), (told, (None,) + papers[1:], found), (told, papers[:3] + (None,), found),
                 (told, papers, None), (told, None, found), None, ()]
        for paper in wrong:
            self.assertIs(claim_holds(puzzle, start, ("sure",), claim, paper), False)

    def test_cells_that_are_not_sure_have_both_values(self):
        puzzle = Puzzle(Book([LIKE]), 3, [(0, (0, 1), 1)])
        paper = floor_paper(puzzle)
        claim = ("sure", ())
        cheapest = cheapest_of(puzzle, ())[1]
        for count in range(4):
            for found in itertools.product(cheapest, repeat=count):
                both = all([len(set(values)) == 2 for values in zip(*found)]) and count > 0
                self.assertIs(claim_holds(puzzle, (), ("sure",), claim, (0, (paper,), found)), both)

    def test_sure_claims_that_lack_a_pair_of_the_start(self):
        puzzle = Puzzle(Book([LIKE]), 2, ())
        paper = (0, (("flow", ()),), ((0, 0), (0, 1)))
        self.assertIs(claim_holds(puzzle, ((0, 0),), ("sure",), ("sure", ((0, 0),)), paper), True)
        for other in ((), ((0, 1),), ((1, 0),), ((0, 0), (1, 0)), ((0, False),)):
            self.assert_holds(puzzle, ((0, 0),), ("sure",), ("sure", other), paper)
            self.assertIs(claim_holds(puzzle, ((0, 0),), ("sure",), ("sure", other), paper), False)
        for other in (((0, 1),), ((0, 1), (1, 0))):
            for count in range(4):
                several = (0, (("flow", ()),) * count, ((0, 0), (0, 1)))
                self.assertIs(claim_holds(puzzle, ((0, 0),), ("sure",), ("sure", other), several), False)

    def test_claims_of_other_questions(self):
        puzzle = Puzzle(Book([RATHER_YES]), 1, [(0, (0,), 1)])
        claims = [answer_of(puzzle, (), question) for question in QUESTIONS]
        papers = [paper_of(puzzle, (), question) for question in QUESTIONS]
        for number, question in enumerate(QUESTIONS):
            for (at, claim), paper in itertools.product(enumerate(claims), papers):
                found = self.assert_holds(puzzle, (), question, claim, paper)
                self.assertIs(found, at == number and paper == papers[number])
            word, value = claims[number]
            for claim in (None, word, (word,), [word, value], (word, value, value), (value, word), ("other", value),
                          (True, value), (word, [value]), (word, None), (word, True), (question, value), {word: value}):
                self.assertIs(claim_holds(puzzle, (), question, claim, papers[number]), False)

    def test_changed_claims_and_papers(self):
        source = random.Random(97)
        held = refused = 0
        for book in many_books(84, 98):
            puzzle = puzzle_over(source, book, source.randint(0, 4), source.randint(0, 5))
            for start in some_starts(puzzle.cell_count, source, 1):
                for question in QUESTIONS:
                    claim, paper = answer_of(puzzle, start, question), paper_of(puzzle, start, question)
                    for _ in range(4):
                        held += self.assert_holds(puzzle, start, question, claim, changed(source, paper))
                        refused += not self.assert_holds(puzzle, start, question, changed(source, claim), paper)
        self.assertGreater(min(held, refused), 200)

    def test_papers_of_other_puzzles_and_starts(self):
        source = random.Random(99)
        for one, other in zip(many_puzzles(20, 3, 4), many_puzzles(20, 3, 4, 8)):
            for question in QUESTIONS:
                for start in some_starts(one.cell_count, source, 1):
                    claim, paper = answer_of(one, start, question), paper_of(one, start, question)
                    self.assert_holds(one, (), question, claim, paper)
                    self.assert_holds(other, (), question, claim, paper)
                    self.assert_holds(other, (), question, answer_of(other, (), question), paper)


class ErrorTest(QuestionCase):

    def calls(self):
        return [lambda puzzle, start, question: answer_of(puzzle, start, question),
                lambda puzzle, start, question: paper_of(puzzle=puzzle, start=start, question=question),
                lambda puzzle, start, question: claim_holds(puzzle, start, question, None, None),
                lambda puzzle, start, question: claim_holds(puzzle, start, question, ("least", 0), ())]

    def test_any_value_as_start_and_question(self):
        puzzle = Puzzle(Book([UNLIKE]), 2, [(0, (0, 1), 1)])
        for value in (*any_values(), ["least"], ("Least",), ("least", "least"), ((0, True),), [(0, 1)], ((1, 0), (0, 0))):
            for call in self.calls():
                if not is_start(puzzle, value):
                    for question in (("least",), ("settled",), ("sure",), None, value):
                        self.assert_wrong(InvalidStart, value, call, puzzle, value, question)
                for start in ((), ((0, 1),)):
                    self.assert_wrong(InvalidQuestion, value, call, puzzle, start, value)

    def test_any_value_as_claim_and_paper(self):
        puzzle = Puzzle(Book([UNLIKE]), 2, [(0, (0, 1), 1)])
        for question in QUESTIONS:
            right = answer_of(puzzle, (), question), paper_of(puzzle, (), question)
            for value in any_values():
                for claim, paper in ((value, right[1]), (right[0], value), ((question[0], value), right[1]),
                                     (right[0], (value,)), (right[0], (value, value)), (right[0], (value,) * 3)):
                    self.assert_holds(puzzle, (), question, claim, paper)
                    if paper == right[1] and claim != right[0]:
                        self.assertIs(claim_holds(puzzle, (), question, claim, paper), False)

    def test_equal_calls_return_equal_results(self):
        for one, other in zip(many_puzzles(20), many_puzzles(20)):
            for question in QUESTIONS:
                self.assertEqual(answer_of(one, (), question), answer_of(other, (), question))
                self.assertEqual(paper_of(one, (), question), paper_of(other, (), question))
                self.assertEqual(paper_of(one, (), question), paper_of(one, (), question))

    def test_the_papers_hold_for_the_judge_of_floors(self):
        puzzle = triangle()
        least, papers, _ = paper_of(puzzle, (), ("sure",))
        self.assertIs(floor_holds(puzzle, (), least, papers[0]), True)
        self.assertIs(floor_holds(puzzle, (), 1, paper_of(puzzle, (), ("least",))[1]), True)


if __name__ == "__main__":
    unittest.main()
