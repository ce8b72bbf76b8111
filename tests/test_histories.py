"""Point [25] and "cutorall/histories.py" in the interface."""

import ast
import inspect
import random
import unittest

from cutorall import histories
from cutorall.books import Book
from cutorall.desk import Desk
from cutorall.errors import InvalidQuestion, InvalidText, PriceError
from cutorall.histories import history_holds, relived, told, untold, write_history
from cutorall.prices import Price
from cutorall.puzzles import Puzzle
from cutorall.questions import answer_of, claim_holds, is_question, paper_of
from cutorall.texts import read_puzzle, write_puzzle
from tests.cases import Case, is_plain
from tests.samples import LIKE, RATHER_YES, SKEW, UNLIKE, cheapest_of, many_books
from tests.strange import nested
from tests.test_desk import Model, is_move, some_move
from tests.test_questions import QUESTIONS

LEAST, SETTLED, SURE = QUESTIONS
LETTERS = "abcdefghijklmnopqrstuvwxyz "

SMALL = """price 1 2,0
price 2 0,3,3,0
cells 2
watch ("least",)
claim ("least",0,)
paper ((0,0,),("flow",(),),)
move ("tie",0,(1,),3,)
claim ("least",0,)
paper ((0,1,),("flow",(0,),),)
watch ("settled",)
claim ("settled",((1,1,),),)
paper ()
undo
claim ("least",0,)
paper ((0,1,),("flow",(),),)
claim ("settled",(),)
paper ()
leave ("least",)
redo
claim ("settled",((1,1,),),)
paper ()"""


def told_plainly(value):
    """The text of the value, told as [25] tells it."""
    if type(value) is tuple:
        text = "("
        for member in value:
            text += told_plainly(member) + ","
        return text + ")"
    return str(value) if is_plain(value) else '"' + value + '"'


def depth_of(value):
    return 1 + max([0] + [depth_of(member) for member in value]) if type(value) is tuple else 0


def is_tellable(value):
    """Whether the value is made of tuples, integers of at most 40 figures and words, not too deep."""
    if type(value) is tuple:
        return depth_of(value) <= 60 and all([is_tellable(member) for member in value])
    if type(value) is str:
        return value != "" and all([sign in LETTERS for sign in value])
    return is_plain(value) and abs(value) < 10 ** 40


def right_untold(text):
    """The value whose text this is, in a tuple, () if there is none: as Python itself reads such a text."""
    try:
        value = ast.literal_eval(text)
    except (ValueError, SyntaxError, MemoryError, RecursionError):
        return ()
    if not is_tellable(value) or told_plainly(value) != text:
        return ()
    return (value,)


class Reader:
    """Reads a history line by line, with a model of the desk; at is the place of the first wrong line, or None."""

    def __init__(self, text):
        self.places, place = [], 0
        for line in text.split("\n"):
            self.places.append((place, line))
            place += len(line) + 1
        self.text = text
        self.at = None
        self.read()

    def read(self):
        cells = [number for number, (_, line) in enumerate(self.places) if line.startswith("cells")]
        head = self.places[:cells[0] + 1] if cells else self.places
        try:
            puzzle = read_puzzle("\n".join([line for _, line in head]))
        except InvalidText as error:
            self.at = error.at
            return
        if puzzle.cell_count > 9:
            self.at = head[-1][0]
            return
        self.model = Model(puzzle.book, puzzle.cell_count)
        self.left = self.places[len(head):]
        while self.left and self.at is None:
            at, line = self.left.pop(0)
            questions = self.step(line)
            if questions is None:
                self.at = at
            for question in questions or ():
                if self.at is None:
                    self.read_paper(question)

    def step(self, line):
        """Does what the line tells; answers the questions of which claims stand behind it, None if it is wrong."""
        model = self.model
        word, value = line.partition(" ")[0], right_untold(line.partition(" ")[2])
        if line in ("undo", "redo") and (model.moves if line == "undo" else model.undone):
            getattr(model, line)()
            return list(model.kept)
        if word == "move" and value and is_move(*model.now(), value[0]):
            model.move(value[0])
            return list(model.kept)
        if word == "watch" and value and is_question(value[0]) and value[0] not in model.kept:
            model.kept[value[0]] = None
            return [value[0]]
        if word == "leave" and value and type(value[0]) is tuple and value[0] in model.kept:
            del model.kept[value[0]]
            return []
        return None

    def read_paper(self, question):
        claim = answer_of(*self.model.now(), question)
        for word in ("claim", "paper"):
            if not self.left:
                self.at = len(self.text)
                return
            at, line = self.left.pop(0)
            value = right_untold(line.partition(" ")[2])
            right = line.startswith(word + " ") and value != ()
            if word == "claim":
                right = right and value[0] == claim
            else:
                right = right and claim_holds(*self.model.now(), question, claim, value[0])
            if not right:
                self.at = at
                return
        self.model.kept[question] = (claim, value[0])


def some_desk(source, book, cell_count, steps):
    """A desk at which some things were done, some of them refused."""
    desk = Desk(book, cell_count)
    for _ in range(steps):
        choice = source.randrange(10)
        try:
            if choice < 4:
                desk.move(some_move(source, desk.puzzle(), desk.start()))
            elif choice < 6:
                desk.undo()
            elif choice == 6:
                desk.redo()
            elif choice == 7:
                desk.leave(source.choice(QUESTIONS))
            else:
                desk.watch(source.choice(QUESTIONS))
        except PriceError:
            pass
    return desk


def some_histories(count, seed=111, steps=9):
    """The histories of some desks over books of each kind and of none."""
    source = random.Random(seed)
    return [write_history(some_desk(source, book, number % 5, steps)) for number, book in enumerate(many_books(count, seed))]


class HistoryCase(Case):

    def assert_refused(self, text, at):
        self.assertIs(history_holds(text), False)
        error = self.assert_error(InvalidText, {"text": text, "at": at}, relived, text)
        self.assertIs(error.text, text)
        self.assertTrue(is_plain(error.at))

    def assert_history(self, text):
        """It holds, or is refused at the right place, as the reader of these tests tells; answers whether it holds."""
        at = Reader(text).at
        if at is not None:
            self.assert_refused(text, at)
            return False
        self.assertIs(history_holds(text), True)
        self.assertEqual(write_history(relived(text)), text)
        return True

    def assert_alike(self, one, other):
        """Both desks answer everything alike."""
        self.assertTrue(one.puzzle() == other.puzzle())
        self.assertEqual((one.start(), one.done(), one.watched()), (other.start(), other.done(), other.watched()))
        for question in one.watched():
            self.assertEqual(one.claim(question), other.claim(question))
            self.assertEqual(one.paper_for(question), other.paper_for(question))
        self.assertEqual(write_history(one), write_history(other))


class ToldTest(Case):

    def test_interface(self):
        functions = {"told": ["value"], "untold": ["text"], "write_history": ["desk"], "history_holds": ["text"],
                     "relived": ["text"]}
        for name in functions:
            function = getattr(histories, name)
            self.assertEqual(function.__module__, "cutorall.histories")
            self.assertEqual(list(inspect.signature(function).parameters), functions[name])
        self.assertEqual(untold(text=told(value=("a", -1))), ("a", -1))
        text = write_history(desk=Desk(Book([LIKE]), 0))
        self.assertIs(history_holds(text=text), True)
        self.assertEqual(write_history(relived(text=text)), text)

    def test_ordinary(self):
        texts = {(): "()", 0: "0", -7: "-7", "all no": '"all no"', (1,): "(1,)", (1, -2): "(1,-2,)", ((),): "((),)",
                 ("least", 10 ** 39): f'("least",{10 ** 39},)', ((), ((), "a"), 0): '((),((),"a",),0,)', " ": '" "',
                 ("a  b ", " "): '("a  b "," ",)'}
        for value in texts:
            self.assertEqual(told(value), texts[value])
            self.assertEqual(untold(texts[value]), value)
            self.assertIs(type(untold(texts[value])), type(value))

    def test_sixty_tuples_within_one_another(self):
        for depth in range(61):
            value = nested(tuple, depth)
            self.assertEqual(told(value), "(" * depth + "0" + ",)" * depth)
            self.assertEqual(untold(told(value)), value)
            empty = "(" * depth + ",".join(")" * depth) if depth else "0"
            self.assertEqual(told(untold(empty)), empty)
        for depth in (61, 62, 100, 5000):
            for inner in ("0", "()", '"a"', ""):
                self.assert_untellable("(" * depth + inner + ",)" * depth)
        self.assert_untellable("(" * 60 + "()" + ",)" * 60)
        self.assertEqual(told(untold("(" * 59 + "()" + ",)" * 59)), "(" * 59 + "()" + ",)" * 59)
        # Many beside one another are not deep.
        beside = (nested(tuple, 59),) * 3
        self.assertEqual(untold(told(beside)), beside)

    def assert_untellable(self, text):
        with self.assertRaises(InvalidText) as caught:
            untold(text)
        self.assertIs(caught.exception.text, text)
        self.assertTrue(is_plain(caught.exception.at) and 0 <= caught.exception.at <= len(text))

    def test_wrong_texts(self):
        wrong = ["", " ", "(", ")", "(1)", "(1,", "1,", "(1,,)", "(,)", "(1 ,)", "(1, 2,)", " 1", "1 ", "( )", "() ", "()()",
                 "00", "01", "-0", "--1", "-", "+1", "1.0", "0x1", "1_0", "-01", "(00,)", "(-0,)", "1" * 41, "-" + "1" * 41,
                 '"', '""', '"A"', '"a', 'a', '"a""', '"a"b', '"1"', '"a,b"', '"a\n"', "'a'", '("a",)\n', "(1,)\n", "\n", "(1,)(",
                 "None", "True", "[1,]", "(True,)", "1,2,", '"a","b",', '("a""b",)', '("a" ,)', "(1;)", "((1,)", "(1,))", "\t1",
                 "1\n", "\u0661", '"\u00e9"', "(1,2)", '"all_no"', "-(1,)", "1()", '(1"a",)', "9" * 5000, '"' * 50]
        for text in wrong:
            self.assertEqual(right_untold(text), ())
            self.assert_untellable(text)
        for text in ("9" * 40, "-" + "9" * 40, "1" + "0" * 39, "0", "-1"):
            self.assertEqual(told(untold(text)), text)

    def some_value(self, source, depth):
        choice = source.random()
        if depth and choice < 0.5:
            return tuple([self.some_value(source, depth - 1) for _ in range(source.randint(0, 3))])
        if choice < 0.8:
            return source.choice((0, 1, -1, 10, -25, 10 ** 39, source.randint(-10 ** 40 + 1, 10 ** 40 - 1)))
        return "".join([source.choice(LETTERS) for _ in range(source.randint(1, 5))])

    def test_many_values_and_changed_texts(self):
        source = random.Random(110)
        right = 0
        for _ in range(1500):
            value = self.some_value(source, 4)
            text = told_plainly(value)
            self.assertEqual(told(value), text)
            found = untold(text)
            self.assertEqual((found, type(found)), (value, type(value)))
            at = source.randrange(len(text) + 1)
            sign = source.choice(("", ",", "(", ")", '"', "0", "1", "-", "a", " ", "\n", "A"))
            changed = text[:at] + sign + text[at + source.randint(0, 2):]
            read = right_untold(changed)
            if read:
                right += 1
                self.assertEqual(untold(changed), read[0])
            else:
                self.assert_untellable(changed)
        self.assertGreater(right, 100)


class WriteTest(HistoryCase):

    def test_a_small_history(self):
        desk = Desk(Book([RATHER_YES, LIKE]), 2)
        desk.watch(LEAST)
        desk.move(("tie", 0, (1,), 3))
        desk.watch(SETTLED)
        desk.undo()
        desk.leave(LEAST)
        desk.redo()
        lines = write_history(desk).split("\n")
        wanted = SMALL.split("\n")
        self.assertEqual(len(lines), len(wanted))
        for line, other in zip(lines, wanted):
            # The papers of the least total may be any that hold.
            if not other.startswith("paper (("):
                self.assertEqual(line, other)
        self.assert_history(write_history(desk))

    def test_that_history_with_its_own_papers(self):
        desk = relived(SMALL)
        self.assertEqual(write_history(desk), SMALL)
        self.assertEqual(desk.watched(), (SETTLED,))
        self.assertEqual(desk.done(), (("tie", 0, (1,), 3),))
        self.assertIs(type(desk), Desk)

    def test_a_new_desk(self):
        for book in (Book([LIKE]), Book([SKEW, RATHER_YES])):
            for cell_count in range(10):
                text = write_history(Desk(book, cell_count))
                self.assertEqual(text, write_puzzle(Puzzle(book, cell_count, ())))
                self.assert_history(text)
                self.assert_alike(relived(text), Desk(book, cell_count))

    def test_what_is_refused_or_changes_nothing_is_left_out(self):
        desk = Desk(Book([RATHER_YES]), 1)
        desk.watch(SURE)
        before = write_history(desk)
        desk.watch(SURE)
        for call, value in ((desk.move, ("take", 0)), (desk.move, None), (desk.watch, "sure"), (desk.leave, LEAST),
                            (desk.claim, LEAST), (desk.paper_for, None)):
            with self.assertRaises(PriceError):
                call(value)
        for call in (desk.undo, desk.redo):
            with self.assertRaises(PriceError):
                call()
        for call in (desk.puzzle, desk.start, desk.done, desk.watched):
            call()
        self.assertEqual(write_history(desk), before)

    def test_the_lines_tell_what_the_desk_kept_just_behind_them(self):
        source = random.Random(112)
        for number, book in enumerate(many_books(28, 113)):
            desk = Desk(book, number % 4)
            lines = [write_puzzle(Puzzle(book, number % 4, ()))]
            for _ in range(12):
                lines.extend(self.some_lines(source, desk))
            self.assertEqual(write_history(desk), "\n".join(lines))

    def some_lines(self, source, desk):
        """Does something at the desk; the lines that tell it."""
        choice = source.randrange(6)
        question = source.choice(QUESTIONS)
        if choice == 0 and question not in desk.watched():
            desk.watch(question)
            return [f"watch {told_plainly(question)}"] + self.kept_lines(desk, (question,))
        if choice == 1 and question in desk.watched():
            desk.leave(question)
            return [f"leave {told_plainly(question)}"]
        if choice == 2 and desk.done():
            desk.undo()
            return ["undo"] + self.kept_lines(desk, desk.watched())
        try:
            desk.redo()
            return ["redo"] + self.kept_lines(desk, desk.watched())
        except PriceError:
            move = some_move(source, desk.puzzle(), desk.start())
        if move is None:
            return []
        desk.move(move)
        return [f"move {told_plainly(move)}"] + self.kept_lines(desk, desk.watched())

    def kept_lines(self, desk, watched):
        lines = []
        for question in watched:
            lines.append(f"claim {told_plainly(desk.claim(question))}")
            lines.append(f"paper {told_plainly(desk.paper_for(question))}")
        return lines

    def test_relived_desks(self):
        source = random.Random(114)
        for number, book in enumerate(many_books(42, 115)):
            desk = some_desk(source, book, number % 5, 14)
            text = write_history(desk)
            self.assertIs(history_holds(text), True)
            again = relived(text)
            self.assert_alike(again, desk)
            # What may be undone and done again is the same, too, and so are the words of the reports.
            for name in ("redo", "undo", "redo"):
                answers = []
                for one in (desk, again):
                    try:
                        answers.append(getattr(one, name)())
                    except PriceError as error:
                        answers.append((type(error), vars(error)))
                self.assertEqual(answers[0], answers[1])
            self.assert_alike(again, desk)

    def test_nine_cells_and_sixty_moves(self):
        source = random.Random(116)
        desk = Desk(Book([UNLIKE, SKEW, RATHER_YES]), 9)
        desk.watch(SURE)
        desk.watch(LEAST)
        for _ in range(60):
            move = some_move(source, desk.puzzle(), desk.start())
            if move is not None:
                desk.move(move)
        self.assert_alike(relived(write_history(desk)), desk)


class OtherPapersTest(HistoryCase):

    def test_other_papers_that_hold(self):
        # Both fillings of like are cheapest, and a split shows the floor as well as a flow.
        desk = Desk(Book([LIKE]), 2)
        desk.move(("tie", 0, (0, 1), 1))
        desk.watch(LEAST)
        desk.move(("tie", 0, (1, 1), 1))
        text = write_history(desk)
        filling, paper = desk.paper_for(LEAST)
        for other in ((1, 1), (0, 0)):
            for floor in (paper, ("kind", "all no"), ("kind", "all yes"),
                          ("split", 0, paper_of(desk.puzzle(), ((0, 0),), LEAST)[1], paper_of(desk.puzzle(), ((0, 1),), LEAST)[1])):
                lines = text.split("\n")
                lines[-1] = "paper " + told((other, floor))
                changed = "\n".join(lines)
                self.assertTrue(self.assert_history(changed))
                self.assertEqual(relived(changed).paper_for(LEAST), (other, floor))
                lines[4] = lines[-1]
                self.assert_history("\n".join(lines))
        for other in ((0, 1), (1, 0), (0,), (0, 0, 0)):
            lines = text.split("\n")
            lines[-1] = "paper " + told((other, paper))
            self.assertIs(history_holds("\n".join(lines)), False)

    def test_the_next_words_hang_on_the_papers_of_the_text(self):
        desk = Desk(Book([LIKE, Price(1, (0, 2))]), 2)
        desk.move(("tie", 0, (0, 1), 1))
        desk.watch(LEAST)
        lines = write_history(desk).split("\n")
        for filling, word in (((0, 0), "kept"), ((1, 1), "renewed")):
            paper = (filling, ("kind", "all no"))
            lines[-1] = "paper " + told(paper)
            one = relived("\n".join(lines))
            self.assertEqual(one.paper_for(LEAST), paper)
            # By this tie both yes is no longer cheapest.
            self.assertEqual(one.move(("tie", 1, (0,), 1)), ((LEAST, word, ("least", 0)),))
            self.assertEqual(one.paper_for(LEAST) == paper, word == "kept")
            self.assert_history(write_history(one))

    def test_a_paper_of_before_that_would_still_hold(self):
        desk = Desk(Book([LIKE]), 1)
        desk.watch(LEAST)
        desk.move(("tie", 0, (0, 0), 1))
        text = write_history(desk)
        lines = text.split("\n")
        kept = desk.paper_for(LEAST)
        other = ((1 - kept[0][0],), kept[1])
        self.assertEqual(lines[4], lines[-1])
        lines[-1] = "paper " + told(other)
        changed = "\n".join(lines)
        self.assertTrue(self.assert_history(changed))
        one = relived(changed)
        self.assertEqual(one.paper_for(LEAST), other)
        self.assertEqual(one.undo(), ((LEAST, "kept", ("least", 0)),))
        self.assertEqual(one.paper_for(LEAST), other)
        self.assertEqual(write_history(one).split("\n")[-1], lines[-1])

    def test_papers_of_several_watched_questions(self):
        desk = Desk(Book([LIKE]), 2)
        for question in QUESTIONS:
            desk.watch(question)
        desk.move(("tie", 0, (0, 1), 1))
        lines = write_history(desk).split("\n")
        self.assertTrue(self.assert_history("\n".join(lines)))
        least, paper = cheapest_of(desk.puzzle(), ())[0], desk.paper_for(LEAST)[1]
        for number, line in enumerate(lines):
            if line == "paper " + told(desk.paper_for(SURE)):
                lines[number] = "paper " + told((least, (paper,), ((1, 1), (0, 0), (1, 1))))
        changed = "\n".join(lines)
        self.assertTrue(self.assert_history(changed))
        self.assertEqual(relived(changed).paper_for(SURE)[2], ((1, 1), (0, 0), (1, 1)))
        self.assertEqual(relived(changed).paper_for(LEAST), desk.paper_for(LEAST))


class WrongTest(HistoryCase):

    def test_lines_left_out_doubled_exchanged_and_put_in(self):
        source = random.Random(117)
        extra = ("", "undo", "redo", "tie 0 0 1", "cells 2", "price 1 0,0", 'watch ("least",)', 'watch ("sure",)',
                 'leave ("least",)', 'claim ("least",0,)', "paper ()", 'move ("fix",0,0,)', 'move ("take",0,)', "undo ", " undo",
                 "Undo", "watch", 'watch ("none",)', 'watch  ("sure",)', 'move ("tie",0,[0],1,)', "claim", "paper", "move 5",
                 'watch "least"', 'leave "least"', "leave 0", "watch ()", 'move ("tie",0,(0,),00,)', 'move ("fix",0,-0,)')
        held = refused = 0
        for text in [SMALL] + some_histories(21):
            lines = text.split("\n")
            for number in range(len(lines)):
                other = source.randrange(len(lines))
                swapped = list(lines)
                swapped[number], swapped[other] = lines[other], lines[number]
                for changed in (lines[:number] + lines[number + 1:], lines[:number + 1] + lines[number:], swapped,
                                lines[:number] + [source.choice(extra)] + lines[number:],
                                lines[:number] + [source.choice(extra)] + lines[number + 1:]):
                    if self.assert_history("\n".join(changed)):
                        held += 1
                    else:
                        refused += 1
        self.assertGreater(held, 15)
        self.assertGreater(refused, 400)

    def test_cut_off_and_with_signs_more(self):
        source = random.Random(118)
        for text in [SMALL] + some_histories(7, 119):
            for _ in range(15):
                at = source.randrange(len(text) + 1)
                self.assert_history(text[:at])
                self.assert_history(text[:at] + source.choice("\n 01,()-\"a") + text[at:])
                self.assert_history(text[:at] + text[at + 1:])
            for more in ("\n", " ", "\n\n", "\nundo\n", "\nclaim ()"):
                self.assert_history(text + more)
            self.assert_refused(text + "\n", len(text) + 1)
            self.assert_refused("\n" + text, 0)

    def test_every_sign_of_a_small_history(self):
        for at in range(len(SMALL)):
            self.assert_history(SMALL[:at])
            for sign in ("", ("0", "1", ",", " ", "a", "\n")[at % 6]):
                self.assert_history(SMALL[:at] + sign + SMALL[at + 1:])

    def test_lines_that_are_lacking(self):
        lines = SMALL.split("\n")
        whole = [3, 6, 9, 12, 17, 18, 21]
        for count in range(len(lines) + 1):
            text = "\n".join(lines[:count])
            if count in whole:
                self.assertIs(history_holds(text), True)
            elif count:
                self.assert_refused(text, len(text))
        self.assert_refused("", 0)

    def test_the_places_of_wrong_lines(self):
        lines = SMALL.split("\n")
        wrong = {0: "price 1 2", 1: "price 2 0,3,3", 2: "cells 10", 3: 'watch ("most",)', 4: 'claim ("least",1,)',
                 5: 'paper ((1,0,),("flow",(1,),),)', 6: 'move ("tie",0,(2,),3,)', 7: 'claim ("least",00,)',
                 8: 'paper ((1,0,),("flow",(0,),),)', 9: 'watch ("least",)', 10: 'claim ("settled",((0,1,),),)', 11: "paper 0",
                 12: "redo", 13: 'claim ("sure",0,)', 14: "paper", 15: 'claim ("settled",0,)', 16: 'paper ((),)',
                 17: 'leave ("sure",)', 18: 'redo ("tie",0,(1,),3,)', 19: "paper ()", 20: 'claim ("settled",((1,1,),),)'}
        for number in wrong:
            changed = lines[:number] + [wrong[number]] + lines[number + 1:]
            at = len("\n".join(lines[:number])) + (number > 0)
            self.assert_refused("\n".join(changed), at)
        self.assert_refused(SMALL + "\ntie 0 0 1", len(SMALL) + 1)

    def test_cells_lines(self):
        for count in range(13):
            text = f"price 1 2,0\ncells {count}"
            if count > 9:
                self.assert_refused(text, 12)
                self.assert_refused(text + "\nundo", 12)
            else:
                self.assertIs(history_holds(text), True)
                self.assert_refused(text + "\nundo", len(text) + 1)
        for count in ("00", "-1", "-0", "9 ", "1" * 40, "1" * 41, "x", ""):
            self.assert_refused(f"price 1 2,0\ncells {count}", 12)
        self.assert_refused("price 1 2,0\nprice 1 0,1\ncells 30\ncells 3", 24)

    def test_tie_lines(self):
        puzzle = Puzzle(Book([LIKE]), 2, [(0, (0, 1), 1)])
        text = write_puzzle(puzzle)
        self.assert_refused(text, len("price 2 0,3,3,0\ncells 2\n"))

    def test_moves_that_cannot_be_done(self):
        head = "price 1 2,0\ncells 2\n"
        for move in (("tie", 1, (0,), 1), ("tie", 0, (2,), 1), ("tie", 0, (0, 1), 1), ("tie", 0, (0,), 0), ("take", 0),
                     ("fix", 2, 0), ("fix", 0, 2), ("free", 0), (), 0, "undo", ("undo",), ("fix", 0)):
            self.assert_refused(head + f"move {told_plainly(move)}", len(head))
        for line in ('move ("fix",0,0)', 'move ["fix",0,0,]', "move", "move ", 'move ("fix",0,0,) ', "Move (0,)", 'move("fix",0,0,)'):
            self.assert_refused(head + line, len(head))
        self.assertIs(history_holds(head + 'move ("fix",0,0,)'), True)

    def test_equal_calls_tell_the_same(self):
        self.assertEqual(some_histories(14, 120), some_histories(14, 120))
        for text in some_histories(14, 120):
            self.assert_alike(relived(text), relived(text))
            self.assertIs(history_holds(text), history_holds(text))

    def test_questions_that_are_none_are_told_at_their_line(self):
        text = write_history(Desk(Book([UNLIKE]), 1))
        with self.assertRaises(InvalidQuestion):
            relived(text).watch(("none",))
        self.assert_refused(text + '\nwatch ("none",)', len(text) + 1)
        self.assert_refused(text + '\nleave ("none",)', len(text) + 1)


if __name__ == "__main__":
    unittest.main()
