"""The court: each book has a formula or a story."""

from asmany.builder import built
from asmany.errors import InvalidFormula
from asmany.formulas import check_formula, normal
from asmany.stories import first_story, is_story


class AsMany:
    """The verdict that a book is even, by its formula."""

    def __init__(self, formula):
        self.formula = formula


class Told:
    """The verdict that a book is not even, by a story."""

    def __init__(self, story):
        self.story = story


def court(book):
    """The verdict on a book."""
    formula = built(book)
    return Told(first_story(book)) if formula is None else AsMany(formula)


def is_verdict(book, value):
    """Whether any value is a verdict on a book that is right."""
    if isinstance(value, AsMany):
        # Of formulas with the same kinds and ways there is just one normal form.
        return is_formula(value.formula) and normal(value.formula) == built(book)
    return isinstance(value, Told) and is_story(book, value.story)


def is_formula(value):
    """Whether any value is a formula."""
    try:
        check_formula(value)
    except InvalidFormula:
        return False
    return True
