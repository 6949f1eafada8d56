"""Parts spelled by bars and beats, a line for each note, and read again."""

from trackloom.barring import is_place, place_of, tick_at
from trackloom.errors import InvalidText
from trackloom.parts import check_part, is_part
from trackloom.writing import are_figures

LETTERS = ("c", "c#", "d", "d#", "e", "f", "f#", "g", "g#", "a", "a#", "b")


def spelled(part, metre):
    """The spelling of the part by the metre."""
    check_part(part)
    return "\n".join([line_of(note, metre) for note in part])


def line_of(note, metre):
    """The line that spells the note."""
    tick, length, pitch, force = note
    bar, beat, rest = place_of(metre, tick)
    turn, number = divmod(pitch, 12)
    return f"{bar + 1}.{beat + 1}.{rest} {length} {LETTERS[number]}{turn} {force}"


def part_of(text, metre):
    """The part of which this text is the spelling by the metre."""
    if not isinstance(text, str):
        raise InvalidText(text)
    lines = text.split("\n") if text != "" else []
    part = tuple([note_of(line, metre) for line in lines])
    if not is_part(part):
        raise InvalidText(text)
    return part


def note_of(line, metre):
    """The note that the line spells, with members that may be none or beyond their bounds; None if it is no line."""
    words = line.split(" ")
    if len(words) != 4:
        return None
    tick = tick_of_word(words[0], metre)
    pitch = pitch_of_word(words[2])
    return tick, number_of_word(words[1]), pitch, number_of_word(words[3])


def number_of_word(word):
    """The number that the word tells, None if it is none."""
    return int(word) if are_figures(word) else None


def tick_of_word(word, metre):
    """The tick of the place that the word tells, None if the metre has no such place."""
    numbers = [number_of_word(each) for each in word.split(".")]
    if len(numbers) != 3 or None in numbers:
        return None
    place = (numbers[0] - 1, numbers[1] - 1, numbers[2])
    return tick_at(metre, place) if is_place(metre, place) else None


def pitch_of_word(word):
    """The pitch that the word tells, None if it is none."""
    letters = word.rstrip("0123456789")
    number = number_of_word(word[len(letters):])
    if letters not in LETTERS or number is None:
        return None
    return 12 * number + LETTERS.index(letters)
