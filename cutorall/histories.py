"""Histories: what was done at a desk, with the claims and the papers that it kept, told as a text."""

from cutorall.basics import is_integer
from cutorall.desk import MOST_CELLS, Desk
from cutorall.errors import InvalidMove, InvalidQuestion, InvalidText, NothingToUndo
from cutorall.puzzles import Puzzle
from cutorall.questions import claim_holds
from cutorall.texts import FIGURES, lines_of, read_head, read_integer, write_puzzle

LETTERS = "abcdefghijklmnopqrstuvwxyz "
MOST_TUPLES = 60


def told(value):
    """The text of a value made of tuples, integers and words."""
    if isinstance(value, tuple):
        return "(" + "".join([told(member) + "," for member in value]) + ")"
    if is_integer(value):
        return str(value)
    return f'"{value}"'


def _end_of(text, at, signs):
    """The place behind the signs of this sort that stand there."""
    while at < len(text) and text[at] in signs:
        at += 1
    return at


def _read_word(text, at):
    """The word whose quotation mark stands there, and the place behind it."""
    end = _end_of(text, at + 1, LETTERS)
    if end == at + 1 or text[end:end + 1] != '"':
        raise InvalidText(text, end)
    return text[at + 1:end], end + 1


def _read_number(text, at):
    """The integer that stands there, and the place behind it."""
    end = _end_of(text, at + 1, FIGURES)
    number = read_integer(text[at:end])
    if number is None:
        raise InvalidText(text, at)
    return number, end


def _read_tuple(text, at, room):
    """The tuple that stands there, with at most room tuples within one another, and the place behind it."""
    if room == 0:
        raise InvalidText(text, at)
    members = []
    at += 1
    while text[at:at + 1] != ")":
        member, at = _read_value(text, at, room - 1)
        if text[at:at + 1] != ",":
            raise InvalidText(text, at)
        members.append(member)
        at += 1
    return tuple(members), at + 1


def _read_value(text, at, room):
    """The value that stands there, with at most room tuples within one another, and the place behind it."""
    if text[at:at + 1] == "(":
        return _read_tuple(text, at, room)
    if text[at:at + 1] == '"':
        return _read_word(text, at)
    return _read_number(text, at)


def untold(text):
    """The value whose text this is."""
    value, end = _read_value(text, 0, MOST_TUPLES)
    if end != len(text):
        raise InvalidText(text, end)
    return value


def write_history(desk):
    """The text of what was done at the desk."""
    puzzle = desk.puzzle()
    lines = [write_puzzle(Puzzle(puzzle.book, puzzle.cell_count, ()))]
    for word, value, kept in desk.events():
        lines.append(word if value is None else f"{word} {told(value)}")
        for _, claim, paper in kept:
            lines.extend([f"claim {told(claim)}", f"paper {told(paper)}"])
    return "\n".join(lines)


def _do(desk, line):
    """Does at the desk what the line tells; whether this could be done."""
    word, _, rest = line.partition(" ")
    try:
        if line == "undo":
            desk.undo()
        elif line == "redo":
            desk.redo()
        elif word == "move":
            desk.move(untold(rest))
        elif word == "leave":
            desk.leave(untold(rest))
        elif word == "watch" and untold(rest) not in desk.watched():
            desk.watch(untold(rest))
        else:
            return False
    except (InvalidMove, InvalidQuestion, InvalidText, NothingToUndo):
        return False
    return True


def _paper_of_line(desk, question, line):
    """The paper of the question's answer that the line tells, None if it tells none that holds."""
    word, _, rest = line.partition(" ")
    try:
        paper = untold(rest)
    except InvalidText:
        return None
    holds = claim_holds(desk.puzzle(), desk.start(), question, desk.claim(question), paper)
    return paper if word == "paper" and holds else None


def _line_at(text, lines, place):
    """The line of this number, with the place at which it begins."""
    if place >= len(lines):
        raise InvalidText(text, len(text))
    return lines[place]


def _take_papers(text, desk, lines, place):
    """Lets the desk keep the papers that stand from this line on; answers the number of the line behind them."""
    _, _, kept = desk.events()[-1]
    papers = []
    for question, claim, _ in kept:
        at, line = _line_at(text, lines, place)
        if line != f"claim {told(claim)}":
            raise InvalidText(text, at)
        at, line = _line_at(text, lines, place + 1)
        paper = _paper_of_line(desk, question, line)
        if paper is None:
            raise InvalidText(text, at)
        papers.append(paper)
        place += 2
    desk.keep(papers)
    return place


def relived(text):
    """A desk that was led through what the text tells, and keeps its papers."""
    book, cell_count, lines = read_head(text)
    if cell_count > MOST_CELLS:
        # The cells line stands just behind those of the prices.
        raise InvalidText(text, lines_of(text)[len(book)][0])
    desk = Desk(book, cell_count)
    place = 0
    while place < len(lines):
        at, line = lines[place]
        if not _do(desk, line):
            raise InvalidText(text, at)
        place = _take_papers(text, desk, lines, place + 1)
    return desk


def history_holds(text):
    """Whether the text is one of some desk, whatever papers that hold it tells."""
    try:
        relived(text)
    except InvalidText:
        return False
    return True
