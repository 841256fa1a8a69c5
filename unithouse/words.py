"""The words of texts: taken one after the other, and those of names and numbers."""

from unithouse.errors import BadText
from unithouse.members import MOST_OF_A_NAME

NAME_LETTERS = "abcde"


def words_of(text):
    """Return the list of the words of a text."""
    return [word for word in text.split(" ") if word != ""]


class Words:
    """The words of a line, taken one after the other; BadText of the first one that may not stand there."""

    def __init__(self, line, told):
        self.line = line
        self.told = told
        # How many words were taken.
        self.place = 0
        # A tuple (first, behind, sort) for each sort that was read, with the places where its words begin and end.
        self.sorts_read = []

    def ahead(self):
        """Return the next word, the empty one behind the last."""
        if self.place == len(self.told):
            return ""
        return self.told[self.place]

    def is_done(self):
        """Whether all words were taken."""
        return self.place == len(self.told)

    def refuse(self):
        """Raise BadText of the next word."""
        raise BadText(self.line, self.place)

    def take_if(self, right):
        """Take the next word, which is right or not, and return it."""
        if not right:
            self.refuse()
        word = self.ahead()
        self.place += 1
        return word

    def take(self, options):
        """Take the next word, which is one of the options, and return it."""
        return self.take_if(self.ahead() in options)

    def need_end(self):
        """Raise BadText if there is a next word."""
        if not self.is_done():
            self.refuse()


def words_to_read(text):
    """Return the words of a text to take; BadText of what is no string."""
    if not isinstance(text, str):
        raise BadText(0, 0)
    return Words(0, words_of(text))


def letter_of(name):
    """Return the letter of a name."""
    return NAME_LETTERS[name]


def letters_of(names):
    """Return the word of the letters of some names."""
    return "".join([NAME_LETTERS[name] for name in names])


def names_told(many, word):
    """Return the tuple of the names of which a word has the letters, None if it has anything else."""
    if not all([letter in NAME_LETTERS[:many] for letter in word]):
        return None
    return tuple([NAME_LETTERS.index(letter) for letter in word])


def numbers_up_to(most):
    """Return the list of the words of the integers from 0 to the greatest one."""
    return [str(number) for number in range(most + 1)]


def take_name(words, names):
    """Take the letter of one of some names; return the name."""
    return NAME_LETTERS.index(words.take([NAME_LETTERS[name] for name in names]))


def take_content(words, many):
    """Take the words of a content; return it."""
    options = numbers_up_to(MOST_OF_A_NAME)
    return tuple([int(words.take(options)) for _ in range(many)])


def content_words(content):
    """Return the list of the words of a content."""
    return [str(number) for number in content]
