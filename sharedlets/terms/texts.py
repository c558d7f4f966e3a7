"""The texts of open terms."""

from sharedlets.errors import ParseError
from sharedlets.terms.layout import Layout
from sharedlets.terms.terms import LETTERS, MAX_LEVELS, check_part, is_open_term, is_term


def text_of(part, texts):
    """The text of an open term, with the texts of the open terms directly in it."""
    if part[0] == "name":
        return part[1]
    if part[0] == "word":
        terms = ", ".join(texts)
        return f"{part[1]}({terms})"
    if part[0] == "fun":
        return f"fun {part[1]}. {texts[0]}"
    definitions = "; ".join([f"{name} = {texts[place]}" for place, (name, _) in enumerate(part[1])])
    return f"let {definitions} in {texts[-1]}"


def write(part):
    """The text of an open term."""
    check_part(part)
    return Layout(part).built(text_of)


class Reader:
    """Reads the text of an open term from left to right, without going into itself.

    It looks at signs and blanks alone: whether names, numbers of terms and the like are as in an open term
    is checked when the whole is there.
    """

    def __init__(self, text):
        self.text = text
        self.at = 0
        # What is begun and not yet complete, the innermost one last.
        self.begun = []

    def take(self, sign):
        """Go past this sign if it comes next; return whether it does."""
        if not self.text.startswith(sign, self.at):
            return False
        self.at += len(sign)
        return True

    def expect(self, sign):
        """Go past this sign, which must come next."""
        if not self.take(sign):
            raise ParseError("another sign is wanted here")

    def read_letters(self):
        """Go past all letters that come next, and return them."""
        start = self.at
        while self.at < len(self.text) and self.text[self.at] in LETTERS:
            self.at += 1
        return self.text[start:self.at]

    def read_name(self, behind):
        """Go past a name and the sign behind it, and return the name."""
        name = self.read_letters()
        self.expect(behind)
        return name

    def put_row(self, row):
        """Remember what is begun."""
        if len(self.begun) >= MAX_LEVELS:
            raise ParseError("too many terms are in one another")
        self.begun.append(row)

    def read_next(self):
        """Read the start of an open term; return the term if it is complete at once, otherwise None."""
        letters = self.read_letters()
        if letters == "fun":
            self.expect(" ")
            self.put_row(["fun", self.read_name(". ")])
        elif letters == "let":
            self.expect(" ")
            self.put_row(["let", [], self.read_name(" = ")])
        else:
            return self.read_behind(letters)
        return None

    def read_behind(self, letters):
        """Read what comes behind the name at the start of an open term, like read_next."""
        if not self.take("("):
            return ("name", letters)
        if self.take(")"):
            return ("word", letters, ())
        self.put_row(["word", letters, []])
        return None

    def close(self, part):
        """Put a complete open term into what is around it; return that if it is complete then, or None."""
        row = self.begun[-1]
        if row[0] == "word":
            return self.close_in_word(row, part)
        if row[0] == "let":
            self.close_in_definition(row, part)
            return None
        self.begun.pop()
        if row[0] == "fun":
            return ("fun", row[1], part)
        return ("let", tuple(row[1]), part)

    def close_in_word(self, row, part):
        """Go on behind a term of a word."""
        row[2].append(part)
        if self.take(", "):
            return None
        self.expect(")")
        self.begun.pop()
        return ("word", row[1], tuple(row[2]))

    def close_in_definition(self, row, part):
        """Go on behind the term of a definition."""
        row[1].append((row[2], part))
        if self.take("; "):
            row[2] = self.read_name(" = ")
        else:
            self.expect(" in ")
            row[0] = "in"

    def read_whole(self):
        """Read the whole text."""
        part = None
        while part is None or self.begun:
            part = self.read_next() if part is None else self.close(part)
        if self.at < len(self.text):
            raise ParseError("the text goes on behind its end")
        return part


def read_open(text):
    """The open term with this text."""
    if not isinstance(text, str):
        raise ParseError("this is no string")
    part = Reader(text).read_whole()
    if not is_open_term(part):
        raise ParseError("this is not the text of an open term")
    return part


def read(text):
    """The term with this text."""
    part = read_open(text)
    if not is_term(part):
        raise ParseError("this is not the text of a term")
    return part
