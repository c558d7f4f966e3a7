"""The texts of bodies and families."""

from sharedlets.errors import InvalidFamily, ParseError, TooMany
from sharedlets.families.families import Family, check_family, is_body
from sharedlets.terms.layout import Layout
from sharedlets.terms.texts import Reader, text_of


def _call_text(name, variables):
    """The text of a call; what stands ahead of the body in the line of a definition looks the same."""
    told = ", ".join(variables)
    return f"{name}[{told}]"


def _body_text(part, texts):
    """The text of a body, with the texts of the bodies directly in it."""
    if part[0] == "call":
        return _call_text(part[1], part[2])
    return text_of(part, texts)


def write_body(body):
    """The text of a body."""
    if not is_body(body):
        raise InvalidFamily("this is no body")
    return Layout(body).built(_body_text)


def write_family(family):
    """The text of a family."""
    check_family(family)
    others = [name for name in family.names if name != "main"]
    lines = []
    for name in ["main"] + others:
        parameters, body = family[name]
        lines.append(_call_text(name, parameters) + " = " + write_body(body))
    return "\n".join(lines)


class BodyReader(Reader):
    """Reads the text of a body; what only open terms can have is read, too."""

    def read_behind(self, letters):
        """Read what comes behind the name at the start of a body, like read_next."""
        if not self.take("["):
            return super().read_behind(letters)
        names = []
        if not self.take("]"):
            names.append(self.read_letters())
            while self.take(", "):
                names.append(self.read_letters())
            self.expect("]")
        return ("call", letters, tuple(names))


def read_body(text):
    """The body with this text."""
    if not isinstance(text, str):
        raise ParseError("this is no string")
    body = BodyReader(text).read_whole()
    if not is_body(body):
        raise ParseError("this is not the text of a body")
    return body


def _read_line(line):
    """The name, the parameters and the body of a definition with this line, whatever stands for them."""
    head, _, tail = line.partition(" = ")
    called = BodyReader(head).read_whole()
    if called[0] != "call":
        raise ParseError("this is not the line of a definition")
    return called[1], called[2], BodyReader(tail).read_whole()


def read_family(text):
    """The family with this text."""
    if not isinstance(text, str):
        raise ParseError("this is no string")
    definitions = {}
    for line in text.split("\n"):
        name, parameters, body = _read_line(line)
        definitions[name] = (parameters, body)
    try:
        family = Family.of(definitions)
    except (InvalidFamily, TooMany):
        raise ParseError("this is not the text of a family") from None
    # A name that is told twice, or another order of the lines, does not come back.
    if write_family(family) != text:
        raise ParseError("the lines are not those of a family in their order")
    return family
