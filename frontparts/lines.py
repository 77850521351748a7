"""The lines that a desk knows (13.1)."""

from frontparts.errors import NoLine

# What follows the first word: n for a name, d for a number, t for the text that ends the line.
FORMS = {
    "bag": "nt", "drop": "n", "names": "", "show": "n", "sum": "nnn", "product": "nnn",
    "length": "n", "knots": "n", "befores": "n", "wide": "n", "deep": "n",
    "parts": "n", "part": "nd", "ways": "n", "way": "nd", "swap": "nn", "root": "n", "undo": "",
}
NAME_LETTERS = "abcdefghijklmnopqrstuvw"
MOST_LETTERS = 8
FIGURES = "0123456789"
MOST_FIGURES = 9


def read_line(thing):
    """The list of the words of a line; a text counts as one word."""
    if not isinstance(thing, str) or "\n" in thing:
        raise NoLine()
    words = thing.split(" ")
    if words[0] == "bag":
        words = words[:2] + [" ".join(words[2:])]
    if not has_form(words):
        raise NoLine()
    return words


def has_form(words):
    """Whether words are those of a line."""
    form = FORMS.get(words[0])
    if form is None or len(words) != len(form) + 1:
        return False
    return all([is_fitting(kind, word) for kind, word in zip(form, words[1:])])


def is_fitting(kind, word):
    """Whether a word is of a kind that the forms name."""
    if kind == "n":
        return 1 <= len(word) <= MOST_LETTERS and word.strip(NAME_LETTERS) == ""
    return is_decimal(word) if kind == "d" else word != ""


def is_decimal(word):
    """Whether a word is a number of at most 9 figures without needless zeros."""
    if not 1 <= len(word) <= MOST_FIGURES or word.strip(FIGURES) != "":
        return False
    return word == "0" or word[0] != "0"
