"""Plain values written as texts, each in one way, and read again."""

from trackloom.checking import is_integer
from trackloom.errors import InvalidText, InvalidValue

LONGEST = 30000
DEEPEST = 40
GREATEST = 999999999999
FIGURES = 12
SIGNS = 60


def written(value):
    """The text in which the plain value is written."""
    text = text_of(value, 1)
    if text is None or len(text) > LONGEST:
        raise InvalidValue(value)
    return text


def text_of(value, depth):
    """The writing of any value, which stands so deep if it is a tuple; None if it is no plain value."""
    if value is None:
        return "none"
    if isinstance(value, tuple):
        return text_of_tuple(value, depth)
    if isinstance(value, str):
        return '"' + value + '"' if is_plain(value) else None
    return str(value) if is_integer(value, -GREATEST, GREATEST) else None


def text_of_tuple(value, depth):
    """The writing of a tuple that stands so deep, None if it is no plain value."""
    if depth > DEEPEST:
        return None
    texts = [text_of(member, depth + 1) for member in value]
    return None if None in texts else "(" + ", ".join(texts) + ")"


def is_plain(text):
    """Whether the string is a plain value."""
    return len(text) <= SIGNS and all([" " <= sign <= "~" and sign != '"' and sign != "\\" for sign in text])


def read(text):
    """The value of which this text is the writing."""
    if not isinstance(text, str) or len(text) > LONGEST:
        raise InvalidText(text)
    value, end = value_in(text, 0, 1)
    if end != len(text):
        raise InvalidText(text)
    return value


def value_in(text, at, depth):
    """The pair of the value whose writing begins at this place, and the place behind it; a tuple stands so deep."""
    sign = text[at:at + 1]
    if sign == "(":
        return tuple_in(text, at + 1, depth)
    if sign == '"':
        return string_in(text, at + 1)
    if text[at:at + 4] == "none":
        return None, at + 4
    return integer_in(text, at)


def tuple_in(text, at, depth):
    """What value_in tells of a tuple, the place being behind its bracket."""
    if depth > DEEPEST:
        raise InvalidText(text)
    if text[at:at + 1] == ")":
        return (), at + 1
    member, at = value_in(text, at, depth + 1)
    members = [member]
    while text[at:at + 2] == ", ":
        member, at = value_in(text, at + 2, depth + 1)
        members.append(member)
    if text[at:at + 1] != ")":
        raise InvalidText(text)
    return tuple(members), at + 1


def string_in(text, at):
    """What value_in tells of a string, the place being behind its first quote."""
    end = text.find('"', at)
    value = text[at:end]
    if end < 0 or not is_plain(value):
        raise InvalidText(text)
    return value, end + 1


def integer_in(text, at):
    """What value_in tells of an integer, which goes on to the next comma or bracket."""
    word = text[at:at + FIGURES + 2].partition(",")[0].partition(")")[0]
    if not are_figures(word.removeprefix("-")) or word == "-0":
        raise InvalidText(text)
    return int(word), at + len(word)


def are_figures(text):
    """Whether the string is a number of at most 12 figures, as it is written."""
    return (
        1 <= len(text) <= FIGURES
        and text.isascii()
        and text.isdigit()
        and (text[0] != "0" or len(text) == 1)
    )
