"""[34] Writing."""

import random
import unittest

from tests.helpers import ODD, PROJECT, TEMPO, is_plain, nested, refused, told
from tests.meaning import some_project
from trackloom.errors import InvalidText, InvalidValue
from trackloom.writing import read, written

SIGNS = "".join(chr(number) for number in range(32, 127) if chr(number) not in '"\\')
PAIRS = (
    (None, "none"), (0, "0"), (1, "1"), (-1, "-1"), (10, "10"), (-305, "-305"), (999999999999, "9" * 12), (-999999999999, "-" + "9" * 12),
    ("", '""'), ("a", '"a"'), (" ", '" "'), ("~", '"~"'), ("none", '"none"'), ("(1, 2)", '"(1, 2)"'), (SIGNS[:60], f'"{SIGNS[:60]}"'),
    (SIGNS[-60:], f'"{SIGNS[-60:]}"'), ("x" * 60, '"' + "x" * 60 + '"'), (", ", '", "'), ("'", '"\'"'),
    ((), "()"), ((1,), "(1)"), ((1, 2), "(1, 2)"), (((),), "(())"), ((None, "a", (-5, ((), "b"))), '(none, "a", (-5, ((), "b")))'),
    ((0, 0), "(0, 0)"), ((("",),), '((""))'),
)


def bottomed(depth, value):
    """The value in so many tuples."""
    for _ in range(depth):
        value = (value,)
    return value


def some_value(source, depth=0):
    kind = source.randrange(8)
    if kind < 3 and depth < 40:
        return tuple(some_value(source, depth + 1) for _ in range(source.choice((0, 1, 1, 2, 3))))
    return source.choice((None, 0, 7, -7, source.randrange(-10 ** 12 + 1, 10 ** 12),
                          "".join(source.choice(SIGNS) for _ in range(source.randrange(61)))))


class Written(unittest.TestCase):
    def test_by_hand(self):
        for value, text in PAIRS:
            self.assertEqual(told(self, written, value), text)
            self.assertEqual(told(self, read, text), value)

    def test_depth(self):
        for value in (nested(tuple, 40), bottomed(40, 5), bottomed(40, None), bottomed(39, ()), (nested(tuple, 39),) * 3):
            self.assertEqual(told(self, read, told(self, written, value)), value)
        self.assertEqual(written(nested(tuple, 40)), "(" * 40 + ")" * 40)
        for value in (nested(tuple, 41), bottomed(41, 5), bottomed(40, ()), (1, nested(tuple, 40)), nested(tuple, 60)):
            refused(self, InvalidValue, value, written, value)

    def test_length(self):
        value = (123456789,) * 2727
        self.assertEqual(len(written(value)), 29997)
        value = (value[:-1] + (123456789012,))
        self.assertEqual(len(told(self, written, value)), 30000)
        self.assertEqual(told(self, read, written(value)), value)
        longer = value[:-1] + (-123456789012,)
        refused(self, InvalidValue, longer, written, longer)
        text = "(" + ", ".join(map(str, longer)) + ")"
        self.assertEqual(len(text), 30001)
        refused(self, InvalidText, text, read, text)
        refused(self, InvalidValue, many := ((),) * 20000, written, many)

    def test_what_is_not_plain(self):
        for value in (
            True, False, (True,), (1, (False,)), [], [1], (1, []), ((1, [2]),), {}, 10 ** 12, -10 ** 12, (10 ** 12,), "x" * 61, ("x" * 61,),
            'a"', '"', "\\", "a\\b", "\n", "a\nb", "\x1f", "\x7f", "\u00e9", "\t", ("\n",), TEMPO, (PROJECT,), (TEMPO, 1), 1.5, b"a",
            (b"",), nested(list, 60),
        ):
            refused(self, InvalidValue, value, written, value)
        for value in ODD:
            if type(value) in (bool, list) or not is_plain(value) or value in (nested(tuple, 60), "x" * 4000, tuple(range(29999))):
                refused(self, InvalidValue, value, written, value)
            else:
                self.assertEqual(read(told(self, written, value)), value)


class Read(unittest.TestCase):
    def test_texts_that_are_no_writing(self):
        for text in (
            "", " ", " 1", "1 ", "1\n", "01", "00", "-0", "-", "+1", "--1", "1-", "1.0", "1_0", "1e3", "0x1", "- 1", "-01", "1" * 13, "-" + "1" * 13,
            "0" * 13, "None", "NONE", "non", "nonenone", "none ", "null", "true", "True", "\u0661", "\u00b2", "a", "abc", "'a'",
            '"', '"a', 'a"', '"a""', '"a"b', '"a" ', '"\n"', '"\\"', '"\\""', '"\\\\"', '"\u00e9"', '"\x7f"', '"' + "x" * 61 + '"', '""""',
            "(", ")", "(1", "1)", "(1,)", "(1, )", "(1,2)", "(1,  2)", "( 1)", "(1 )", "(1 ,2)", "(1, 2,)", "(1, 2, )", "(,)", "(, 1)", "(1; 2)",
            "[1]", "()()", "(())(", "(()", "())", "(1 2)", "(1,\n2)", "(1,\t2)", "1, 2", "(1, 2)\n", "(none,none)", "(\"a)", "(1, (2)", "()1", "1()",
            "()none", "(-)", "(--1)", "(01)", "(True)", "(none, -0)",
        ):
            refused(self, InvalidText, text, read, text)

    def test_values_that_are_no_texts(self):
        for value in ODD + (0, 1, None, (), ("1",), ["1"], b"1", PROJECT):
            if value in ("1",):
                self.assertEqual(read(value), 1)
            else:
                refused(self, InvalidText, value, read, value)

    def test_each_change_of_a_writing_is_another_value_or_none(self):
        text = '(none, -12, "a b", (0, ()), 7)'
        self.assertEqual(written(read(text)), text)
        for at in range(len(text)):
            for other in [text[:at] + text[at + 1:]] + [text[:at] + sign + text[at + more:] for sign in '01-n"(), a' for more in (0, 1)]:
                try:
                    value = read(other)
                except InvalidText:
                    continue
                self.assertEqual(written(value), other)

    def test_far_deeper_than_40(self):
        for many in (41, 42, 1000, 15000):
            for text in ("(" * many + ")" * many, "(" * many, "(" * many + "1" + ")" * (many - 1)):
                refused(self, InvalidText, text, read, text)
        self.assertEqual(read("(" * 40 + ")" * 40), nested(tuple, 40))
        text = "(1, " * 40 + "()" + ")" * 40
        refused(self, InvalidText, text, read, text)

    def test_30000_characters(self):
        for text in ("(" + "0, " * 9999 + "1)", "(" + "(), " * 7499 + "1)"):
            self.assertLessEqual(len(text), 30000)
            self.assertEqual(written(told(self, read, text)), text)
        for text in ("(" * 30000, "1" * 30000, '"' * 30000, "(" + '"' * 29999, "(" + "0, " * 9999 + "00"):
            self.assertEqual(len(text), 30000)
            refused(self, InvalidText, text, read, text)
        text = "(" + "0, " * 9999 + "100)"
        self.assertEqual(len(text), 30002)
        refused(self, InvalidText, text, read, text)


class ThereAndBack(unittest.TestCase):
    def test_drawn_values(self):
        source = random.Random(351)
        texts = {}
        for _ in range(500):
            value = tuple(some_value(source) for _ in range(source.randrange(20)))
            text = written(value)
            self.assertEqual(read(text), value)
            self.assertEqual(texts.setdefault(text, value), value)

    def test_nodes(self):
        source = random.Random(352)
        for _ in range(30):
            for node in some_project(source).nodes:
                self.assertEqual(read(written(node)), node)


if __name__ == "__main__":
    unittest.main()
