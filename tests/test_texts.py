"""Tests of cornerturn.texts."""

import re
import unittest
from itertools import product

from cornerturn.errors import BadText, WebError
from cornerturn.texts import read_web, web_text
from cornerturn.webs import Web
from samples import (LETTERS, Mixed, all_webs, any_values, full_web, long_row, looks, ring_of, ring_web, row_web,
                     some_webs, web_of_parts)

PLACE = re.compile(r"place ([a-z]{1,8})")
TIE = re.compile(r"tie ([a-z]{1,8}) ([a-z]{1,8})")


def are_first_lines(lines):
    """Tell whether some lines are the first ones of the text of a web."""
    places = [PLACE.fullmatch(line) for line in lines]
    many = places.index(None) if None in places else len(places)
    names = [found[1] for found in places[:many]]
    ties = [TIE.fullmatch(line) for line in lines[many:]]
    if not 1 <= many <= 12 or len(set(names)) < many or None in ties:
        return False
    couples = [frozenset((found[1], found[2])) for found in ties]
    return all(len(couple) == 2 and couple <= set(names) for couple in couples) and len(set(couples)) == len(couples)


def bad_line(text):
    """Return the line that BadText tells of, None if the text is that of a web."""
    lines = text.split("\n")
    return next((many for many in range(1, len(lines) + 1) if not are_first_lines(lines[:many])), None)


def named_web():
    return Web(["z", "abcdefgh", "a", "tie", "place"], [("tie", "place"), ("a", "z"), ("abcdefgh", "a")])


class Examples(unittest.TestCase):
    def test_examples_of_the_document(self):
        self.assertEqual(web_text(row_web()), "place a\nplace b\nplace c\ntie a b\ntie c b")
        self.assertEqual(read_web("place x").places, ("x",))
        self.assertEqual(read_web(web_text(ring_web())), ring_web())
        with self.assertRaises(BadText) as caught:
            read_web("place a\ntie a b")
        self.assertEqual(caught.exception.line, 2)


class WebText(unittest.TestCase):
    def test_lines(self):
        self.assertEqual(web_text(Web(["x"])), "place x")
        self.assertEqual(web_text(Web(("b", "a"), (("a", "b"),))), "place b\nplace a\ntie a b")
        self.assertEqual(web_text(named_web()), "place z\nplace abcdefgh\nplace a\nplace tie\nplace place\n"
                                                "tie tie place\ntie a z\ntie abcdefgh a")
        lines = web_text(full_web(12)).split("\n")
        self.assertEqual(lines[:12], [f"place {place}" for place in LETTERS])
        self.assertEqual(lines[12:], [f"tie {one} {other}" for one, other in full_web(12).ties])

    def test_texts_are_read_again(self):
        webs = [*all_webs(4), *some_webs(12, 20), named_web(), full_web(12), ring_of(12), Web(["x"]),
                Web(list(LETTERS)), long_row(9).without(["b", "f"]).tied([("i", "a")]), web_of_parts(5, 4, 2)]
        for web in webs:
            found = read_web(web_text(web))
            self.assertIs(found.__class__, Web)
            self.assertEqual((found.places, found.ties), (web.places, web.ties))
            self.assertEqual(found, web)
            self.assertEqual(web_text(found), web_text(web))


class ReadWeb(unittest.TestCase):
    def assert_read(self, text):
        expected = bad_line(text)
        if expected is None:
            self.assertEqual(web_text(read_web(text)), text)
            return
        self.assert_bad(text, expected)

    def assert_bad(self, value, line):
        with self.assertRaises(BadText, msg=repr(value)) as caught:
            read_web(value)
        self.assertEqual(caught.exception.line, line, repr(value))
        self.assertIs(caught.exception.line.__class__, int)

    def test_all_texts_of_some_lines(self):
        lines = ["place a", "place b", "place c", "tie a b", "tie b a", "tie c b", "tie a a", "place", "", "tie a"]
        for many in range(1, 5):
            for some in product(lines, repeat=many):
                self.assert_read("\n".join(some))

    def test_texts_with_one_change(self):
        signs = ["", " ", "\n", "a", "Z", "0", "~", "\nplace q", "\ntie a c", " a"]
        for web in (row_web(), Web(["x"]), full_web(4), named_web()):
            text = web_text(web)
            for at in range(len(text) + 1):
                for sign in signs:
                    self.assert_read(text[:at] + sign + text[at:])
                    self.assert_read(text[:at] + sign + text[at + 1:])

    def test_lines_changed_left_out_doubled_and_exchanged(self):
        mixed = Mixed()
        found = {}
        for web in [*some_webs(5, 40), *some_webs(12, 20), full_web(12)]:
            lines = web_text(web).split("\n")
            for _ in range(20):
                at, to = mixed.below(len(lines)), mixed.below(len(lines))
                changed = list(lines)
                changed[at], changed[to] = lines[to], lines[at]
                doubled = lines[:at] + lines[at:at + 1] * 2 + lines[at + 1:]
                other = lines[:at] + [mixed.of(lines)] + lines[at + 1:]
                for some in (changed, lines[:at] + lines[at + 1:], [*lines, lines[at]], doubled, other):
                    text = "\n".join(some)
                    self.assert_read(text)
                    found[bad_line(text) is None] = True
        self.assertEqual(len(found), 2)

    def test_named_lines(self):
        for text, line in (
                ("", 1), ("\n", 1), ("tie a b", 1), ("tie a b\nplace a\nplace b", 1), ("place", 1), ("place ", 1),
                (" place a", 1), ("place  a", 1), ("place a ", 1), ("place a b", 1), ("place A", 1), ("place a1", 1),
                ("place abcdefghi", 1), ("Place a", 1), ("place\na", 1), ("a", 1), ("placea", 1),
                ("place a\n", 2), ("place a\n\n", 2), ("place a\n\nplace b", 2), ("\nplace a", 1),
                ("place a\nplace a", 2),
                ("place a\ntie a a", 2), ("place a\ntie a b\nplace b", 2), ("place a\nplace b\ntie a b\nplace c", 4),
                ("place a\nplace b\ntie a b\n", 4), ("place a\nplace b\ntie a b\ntie b a", 4),
                ("place a\nplace b\ntie a b\ntie a b", 4), ("place a\nplace b\ntie  a b", 3),
                ("place a\nplace b\ntie a  b", 3), ("place a\nplace b\ntie a b ", 3), ("place a\nplace b\n tie a b", 3),
                ("place a\nplace b\ntie ab", 3), ("place a\nplace b\ntie a", 3), ("place a\nplace b\ntie a b c", 3),
                ("place a\nplace b\nTie a b", 3), ("place a\nplace b\ntie a c\nplace b", 3),
                ("place a\nplace b\ntie a B", 3),
                ("place a\nplace b\nties a b", 3), ("place a\nplace b\n\ntie a b", 3)):
            self.assert_bad(text, line)

    def test_the_first_wrong_line_counts(self):
        self.assert_bad("place a\nplace b\nplace a\ntie a a\n", 3)
        self.assert_bad("place a\ntie a b\n\nplace", 2)
        self.assert_bad("x\ny\nz", 1)

    def test_thirteen_places(self):
        text = web_text(Web(list(LETTERS)))
        self.assertEqual(read_web(text).places, tuple(LETTERS))
        self.assert_bad(f"{text}\nplace m", 13)
        self.assert_bad(f"{text}\nplace a", 13)
        self.assert_bad(f"{text}\nplace m\nplace n\ntie a b", 13)
        self.assertEqual(read_web(f"{text}\ntie l a").ties, (("l", "a"),))
        self.assert_bad(f"{text}\ntie l m", 13)

    def test_all_ties(self):
        text = web_text(full_web(12))
        for one, other in full_web(12).ties:
            self.assert_bad(f"{text}\ntie {other} {one}", 12 + 66 + 1)

    def test_any_value(self):
        values = [*any_values(), ["place a"], ("place a",), {"place a": 1}, [web_text(row_web())], row_web()]
        for value in values:
            self.assert_bad(value, 1)

    def test_the_error_is_a_web_error(self):
        with self.assertRaises(WebError):
            read_web(None)


class Calls(unittest.TestCase):
    def test_webs_and_values_stay(self):
        web = named_web()
        before, text = looks(web), web_text(web)
        self.assertEqual([web_text(web), looks(web)], [text, before])
        for value in any_values():
            old = repr(value)
            with self.assertRaises(BadText):
                read_web(value)
            self.assertEqual(repr(value), old)

    def test_what_is_read_is_new(self):
        text = web_text(ring_web())
        one, other = read_web(text), read_web(text)
        self.assertIsNot(one, other)
        self.assertEqual([one, one.ties], [other, other.ties])

    def test_arguments_by_name(self):
        self.assertEqual(web_text(web=row_web()), web_text(row_web()))
        self.assertEqual(read_web(text="place x"), Web(["x"]))


if __name__ == "__main__":
    unittest.main()
