"""Tests of cornerturn.likeness."""

import unittest
from itertools import permutations, product

from cornerturn.likeness import a_mapping, is_mapping, same_core
from cornerturn.orders import a_core
from cornerturn.webs import Web
from samples import (LETTERS, all_webs, any_values, full_web, long_row, looks, no_names, opposite, renamed, ring_of,
                     ring_web, row_web, some_webs, web_of_parts)

NAMES = ["k", "abcdefgh", "c", "yy", "a", "b", "qq", "rs", "t", "m", "no", "x"]
# Two pairs in which all places see equally many, and yet the webs are not alike.
CUBE = Web(list("abcdefgh"), [tuple(tie) for tie in "ab bc cd da ef fg gh he ae bf cg dh".split()])
TURNED = Web(list("abcdefgh"), [tuple(tie) for tie in "ab bc cd de ef fg gh ha ae bf cg dh".split()])
PRISM = Web(list("abcdef"), [tuple(tie) for tie in "ab bc ca de ef fd ad be cf".split()])
HOUSES = Web(list("abcdef"), [tuple(tie) for tie in "ad ae af bd be bf cd ce cf".split()])


def is_mapping_by_the_rules(first, second, value):
    if sorted(value) != sorted(first.places) or sorted(value.values()) != sorted(second.places):
        return False
    return all((other in first.sees(place)) == (value[other] in second.sees(value[place]))
               for place in first.places for other in first.places)


def alike_by_the_rules(first, second):
    return any(is_mapping_by_the_rules(first, second, dict(zip(first.places, names)))
               for names in permutations(second.places))


def shuffled(web, step):
    """Return a web that is alike: with other names, and places in another sequence."""
    many = len(web.places)
    order = sorted(range(many), key=lambda at: (at * step + at // 2) % 13 * 20 + at)
    return renamed(web, NAMES[:many], order)


class LikenessCase(unittest.TestCase):
    def assert_alike(self, first, second):
        for one, other in ((first, second), (second, first)):
            value = a_mapping(one, other)
            self.assertIs(value.__class__, dict)
            self.assertTrue(is_mapping_by_the_rules(one, other, value))
            self.assertIs(is_mapping(one, other, value), True)

    def assert_not_alike(self, first, second):
        self.assertIs(a_mapping(first, second), None)
        self.assertIs(a_mapping(second, first), None)


class Examples(unittest.TestCase):
    def test_examples_of_the_document(self):
        row, ring = row_web(), ring_web()
        self.assertIs(is_mapping(row, row, {"a": "c", "b": "b", "c": "a"}), True)
        self.assertIs(is_mapping(row, row, {"a": "b", "b": "a", "c": "c"}), False)
        self.assertIs(a_mapping(row, ring), None)
        self.assertIs(same_core(row, Web(["x"])), True)
        self.assertIs(same_core(row, ring), False)
        self.assertIs(same_core(ring, ring.tied([("a", "c")])), False)


class AMapping(LikenessCase):
    def test_all_pairs_of_small_webs(self):
        webs = [web for many in (1, 2, 3, 4) for web in all_webs(many)]
        for first in webs:
            for second in webs:
                if len(first.places) == len(second.places) and alike_by_the_rules(first, second):
                    self.assert_alike(first, second)
                else:
                    self.assert_not_alike(first, second)

    def test_other_names_and_another_sequence(self):
        for many in (1, 2, 5, 8, 11, 12):
            for at, web in enumerate(some_webs(many, 20)):
                self.assert_alike(web, shuffled(web, at % 12 + 1))
                self.assert_alike(web, web)

    def test_one_tie_more(self):
        for web in some_webs(12, 20):
            ties = [(place, other) for place in web.places for other in web.places if other not in web.sees(place)]
            for tie in ties[:3]:
                self.assert_not_alike(web, shuffled(web.tied([tie]), 5))

    def test_one_tie_moved(self):
        web = long_row(6)
        moved = Web(web.places, [("a", "b"), ("b", "c"), ("c", "d"), ("d", "e"), ("d", "f")])
        self.assert_not_alike(web, moved)

    def test_one_place_and_twelve(self):
        self.assert_alike(Web(["a"]), Web(["x"]))
        self.assertEqual(a_mapping(Web(["a"]), Web(["x"])), {"a": "x"})
        self.assert_alike(Web(list(LETTERS)), Web(NAMES))
        self.assert_alike(full_web(12), shuffled(full_web(12), 7))
        self.assert_not_alike(Web(list(LETTERS)), full_web(12))
        self.assert_not_alike(Web(list(LETTERS)), Web(list(LETTERS)[:11]))
        self.assert_not_alike(full_web(12), full_web(11))

    def test_equal_numbers_of_seen_places_and_yet_not_alike(self):
        groups = [
            [web_of_parts(12), web_of_parts(6, 6), web_of_parts(4, 8), web_of_parts(3, 3, 6), web_of_parts(4, 4, 4),
             web_of_parts(3, 3, 3, 3), web_of_parts(5, 7), web_of_parts(3, 9), web_of_parts(3, 4, 5)],
            [web_of_parts(10, 2), web_of_parts(5, 5, 2), web_of_parts(3, 7, 2), web_of_parts(4, 6, 2)],
            [web_of_parts(8, 1, 1, 1, 1), web_of_parts(4, 4, 1, 1, 1, 1), web_of_parts(3, 5, 1, 1, 1, 1)],
            [web_of_parts(6, 2, 2, 2), web_of_parts(3, 3, 2, 2, 2)],
            [web_of_parts(6), web_of_parts(3, 3)], [CUBE, TURNED], [PRISM, HOUSES],
        ]
        for group in groups:
            for webs in (group, [opposite(web) for web in group]):
                for at, first in enumerate(webs):
                    for place, second in enumerate(webs):
                        if at == place:
                            self.assert_alike(first, shuffled(second, 5))
                        else:
                            self.assert_not_alike(first, shuffled(second, 5))

    def test_webs_in_several_parts(self):
        webs = [web_of_parts(2, 3, 1, 4), web_of_parts(5, 4, 2, 1), Web(["a", "b"]), web_of_parts(2, 2, 2, 2, 2, 2)]
        for web in webs:
            self.assert_alike(web, shuffled(web, 3))


class IsMapping(LikenessCase):
    def test_all_dicts_of_small_webs(self):
        webs = [*all_webs(1), *all_webs(2), *all_webs(3)]
        for first in webs:
            for second in webs:
                for names in product(second.places, repeat=len(first.places)):
                    value = dict(zip(first.places, names))
                    self.assertIs(is_mapping(first, second, value), is_mapping_by_the_rules(first, second, value))

    def test_all_sequences_of_some_webs(self):
        for first in some_webs(5, 10):
            second = shuffled(first, 3)
            for names in permutations(second.places):
                value = dict(zip(first.places, names))
                self.assertIs(is_mapping(first, second, value), is_mapping_by_the_rules(first, second, value))

    def test_untied_places_stay_untied(self):
        row, full = row_web(), full_web(3)
        for names in permutations("abc"):
            self.assertIs(is_mapping(row, full, dict(zip("abc", names))), False)
            self.assertIs(is_mapping(full, row, dict(zip("abc", names))), False)
            self.assertIs(is_mapping(full, full, dict(zip("abc", names))), True)

    def test_changed_mappings(self):
        for first in (row_web(), ring_web(), Web(["a"]), full_web(4), Web(list(LETTERS)), long_row(12)):
            second = shuffled(first, 4)
            value = a_mapping(first, second)
            self.assertIs(is_mapping(first, second, dict(reversed(list(value.items())))), True)
            for place in first.places:
                less = {key: value[key] for key in value if key != place}
                self.assertIs(is_mapping(first, second, less), False)
                for key in ("q", None, 0, True, "", ("a",), ("a", "b")):
                    self.assertIs(is_mapping(first, second, {**less, key: value[place]}), False)
                    self.assertIs(is_mapping(first, second, {**value, key: value[place]}), False)
                for wrong in no_names() + any_values():
                    self.assertIs(is_mapping(first, second, {**value, place: wrong}), False)
                for other in second.places:
                    changed = {**value, place: other}
                    self.assertIs(is_mapping(first, second, changed), is_mapping_by_the_rules(first, second, changed))
                for other in first.places:
                    changed = {**value, place: value[other], other: value[place]}
                    self.assertIs(is_mapping(first, second, changed), is_mapping_by_the_rules(first, second, changed))

    def test_webs_of_different_size(self):
        two, three = Web(["a", "b"]), Web(["a", "b", "c"])
        for value in ({"a": "a", "b": "b"}, {"a": "a", "b": "b", "c": "c"}, {"a": "a", "b": "b", "c": "b"}, {}):
            self.assertIs(is_mapping(two, three, value), False)
            self.assertIs(is_mapping(three, two, value), False)

    def test_any_value(self):
        row = row_web()
        right = {"a": "c", "b": "b", "c": "a"}
        others = [list(right.items()), list(right), tuple(right), "abc", [right], (right,)]
        for value in any_values() + no_names() + others:
            for web in (row, Web(["a"]), Web(["a", "b"])):
                with self.subTest(repr(value)):
                    self.assertIs(is_mapping(web, web, value), False)


class SameCore(LikenessCase):
    def test_by_cores_and_mappings(self):
        webs = [*all_webs(1), *all_webs(3), *list(all_webs(4))[::3], *some_webs(6, 12), *some_webs(7, 6)]
        kept = [web.without([place for place in web.places if place not in a_core(web)]) for web in webs]
        for first, one in zip(webs, kept):
            for second, other in zip(webs, kept):
                expected = len(one.places) == len(other.places) and alike_by_the_rules(one, other)
                self.assertIs(same_core(first, second), expected)

    def test_rings(self):
        ring = ring_web()
        tailed = Web(list("eadbc"), [*ring.ties, ("a", "e")])
        self.assertIs(same_core(ring, tailed), True)
        self.assertIs(same_core(tailed, shuffled(tailed, 3)), True)
        self.assertIs(same_core(ring_of(5), ring), False)
        self.assertIs(same_core(ring_of(3), Web(["x"])), True)
        self.assertIs(same_core(Web(["x", "y"]), Web(["x"])), False)
        self.assertIs(same_core(Web(["x", "y"]), web_of_parts(3, 2)), True)

    def test_twelve_places(self):
        self.assertIs(same_core(Web(list(LETTERS)), Web(NAMES)), True)
        self.assertIs(same_core(full_web(12), long_row(12)), True)
        self.assertIs(same_core(full_web(12), Web(list(LETTERS))), False)
        self.assertIs(same_core(web_of_parts(6, 6), ring_of(12)), False)
        self.assertIs(same_core(web_of_parts(6, 6), shuffled(web_of_parts(6, 6), 5)), True)

    def test_another_core_of_a_web_is_alike(self):
        for at, web in enumerate(some_webs(8, 60)):
            self.assertIs(same_core(web, shuffled(web, at % 12 + 1)), True)


class Unchanged(LikenessCase):
    def test_results_are_new_and_the_webs_stay(self):
        for first, second in ((row_web(), shuffled(row_web(), 3)), (Web(["a"]), Web(["x"])), (ring_web(), ring_web())):
            before = looks(first), looks(second)
            value = a_mapping(first, second)
            a_mapping(first, second).clear()
            a_mapping(first, second)["q"] = "q"
            self.assertEqual(a_mapping(first, second), value)
            self.assertEqual([same_core(first, second), same_core(first, second)], [True, True])
            self.assertEqual((looks(first), looks(second)), before)

    def test_arguments_stay(self):
        row, value = row_web(), {"a": "c", "b": "b", "c": "a"}
        self.assertEqual([is_mapping(row, row, value), is_mapping(row, row, value)], [True, True])
        self.assertEqual((looks(row), value), (looks(row_web()), {"a": "c", "b": "b", "c": "a"}))
        for value in any_values():
            before = repr(value)
            is_mapping(row, row, value)
            self.assertEqual(repr(value), before)

    def test_arguments_by_name(self):
        row, one = row_web(), Web(["x"])
        self.assertEqual(a_mapping(second=one, first=Web(["a"])), {"a": "x"})
        self.assertIs(is_mapping(value={"a": "x"}, second=one, first=Web(["a"])), True)
        self.assertIs(is_mapping(value={"x": "a"}, second=one, first=Web(["a"])), False)
        self.assertIs(same_core(second=one, first=row), True)


if __name__ == "__main__":
    unittest.main()
