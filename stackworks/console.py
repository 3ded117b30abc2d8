"""The console: rows of text that command a session, and the answers to them."""

from stackworks.effects import effect_of
from stackworks.errors import InvalidCommand, InvalidDepth
from stackworks.moments import place_at
from stackworks.origins import arrived_at, origin_at
from stackworks.programs import Program
from stackworks.sessions import Session
from stackworks.shorten import shorten, shortest
from stackworks.undoing import steps_to_go
from stackworks.words import read_constant, read_digits

MOST_DIGITS = 400
OPENING = "open "
NO_WORDS = "-"


def words_text(words):
    """Return words as one text, a sign if there are none."""
    return " ".join(words) if len(words) > 0 else NO_WORDS


def cells_text(stack):
    """Return the cells of a stack as a text."""
    return words_text([str(cell) for cell in stack])


def answer_go(session, numbers):
    """Return the cells at a step."""
    return cells_text(session.go(numbers[0]))


def answer_ahead(session, numbers):
    """Return the cells so many steps ahead."""
    return cells_text(session.ahead(steps=numbers[0]))


def answer_to(session, numbers):
    """Return the step before which a word is performed next."""
    return str(session.run_to(numbers[0]))


def answer_poke(session, numbers):
    """Return the old value of a cell that is replaced."""
    return str(session.poke(numbers[0], numbers[1]))


def answer_undo(session, numbers):
    """Revert the last operation."""
    session.undo()
    return "ok"


def answer_step(session, numbers):
    """Return the present step."""
    return str(session.step)


def answer_cells(session, numbers):
    """Return the present cells."""
    return cells_text(session.stack)


def answer_next(session, numbers):
    """Return the number of the word that is performed next."""
    place = place_at(session.program, session.step)
    return "end" if place is None else str(place[0])


def check_cell(session, depth):
    """Raise an error if there is no cell at a depth."""
    if depth >= len(session):
        raise InvalidDepth("there is no cell at this depth")


def answer_origin(session, numbers):
    """Return the origin of the cell at a depth."""
    check_cell(session, numbers[0])
    return " ".join([str(item) for item in origin_at(session.program, session.step, numbers[0])])


def answer_since(session, numbers):
    """Return the step by which the cell at a depth arrived."""
    check_cell(session, numbers[0])
    number = arrived_at(session.program, session.step, numbers[0])
    return "never" if number is None else str(number)


def answer_effect(session, numbers):
    """Return what the program takes and leaves."""
    effect = effect_of(session.program)
    return " ".join([str(effect.taken)] + [f"{kind}:{number}" for kind, number in effect.left])


def answer_left(session, numbers):
    """Return the least number of steps to the state behind the program."""
    return str(steps_to_go(session.program, session.step, effect_of(session.program)))


def answer_short(session, numbers):
    """Return the words of the shortened program."""
    return shorten(session.program).text or NO_WORDS


def answer_best(session, numbers):
    """Return the words of the shortest program."""
    return shortest(session.program).text or NO_WORDS


ANSWERS = {
    "go": answer_go, "ahead": answer_ahead, "to": answer_to, "poke": answer_poke, "undo": answer_undo,
    "step": answer_step, "cells": answer_cells, "next": answer_next, "origin": answer_origin, "since": answer_since,
    "effect": answer_effect, "left": answer_left, "short": answer_short, "best": answer_best,
}
# What stands behind the first words that are not alone: N is a number, X a constant.
FORMS = {"go": "N", "ahead": "N", "to": "N", "poke": "NX", "origin": "N", "since": "N"}


def read_numbers(words, form):
    """Return the list of the numbers that words of a form tell, or None if it is another form."""
    if len(words) != len(form):
        return None
    numbers = [
        read_digits(word, MOST_DIGITS) if sign == "N" else read_constant(word)
        for word, sign in zip(words, form)
    ]
    return None if None in numbers else numbers


def read_row(row):
    """Return the first word and the list of the numbers behind it of a row that does not open a session."""
    words = row.split(" ")
    name = words[0]
    if name == "stack":
        form = "X" * max(1, len(words) - 1)
    else:
        form = FORMS.get(name, "")
    numbers = read_numbers(words[1:], form)
    if name != "stack" and name not in ANSWERS or numbers is None:
        raise InvalidCommand("not a row of this form")
    return (name, numbers)


class Console:
    """A console with a session, at first none."""

    def __init__(self):
        self.session = None

    def say(self, row):
        """Execute a row; return the answer."""
        if not isinstance(row, str) or "\n" in row:
            raise InvalidCommand("not a row of text")
        if row.startswith(OPENING):
            program = Program(row[len(OPENING):])
            self.session = Session(program, (0,) * program.need)
            return "ok"
        name, numbers = read_row(row)
        if self.session is None:
            raise InvalidCommand("there is no session")
        if name == "stack":
            self.session = Session(self.session.program, tuple(numbers))
            return "ok"
        answer = ANSWERS[name]
        return answer(self.session, numbers)
