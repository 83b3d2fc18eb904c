"""Tests of cornerturn.webs."""

import unittest
from itertools import permutations

from cornerturn.errors import BadPlaces, BadTie, BadTies, NoPlace
from cornerturn.webs import Web
from samples import all_webs, any_values, full_web, long_row, ring_web, row_web

TWELVE = list("abcdefghijkl")
NO_NAMES = [name for name in any_values() if name != "zz"]
NO_SEQUENCES = [value for value in any_values() if not isinstance(value, (list, tuple))]
NO_TIES = [
    ("a", "a"), ("a", "d"), ("d", "a"), ("a", "B"), ("a", ""), ("a",), ("a", "b", "c"), (), ["a", "b"], "ab",
    ("a", None), (None, "a"), ("a", True), (True, False), (0, 1), ("a", ["b"]), (["a"], "b"), ("a", {"b": 1}),
    ("a", ("b",)), (("a", "b"), "c"), ("a", Web(["b"])), (Web(["a"]), Web(["b"])), {"a": "b"}, {"a": 1, "b": 2},
]


def raised(call, *arguments):
    """Return the error that a call raises."""
    try:
        call(*arguments)
    except ValueError as error:
        return error
    raise AssertionError("no error")


class WebCase(unittest.TestCase):
    def assert_bad(self, kind, attribute, value, call, *arguments):
        error = raised(call, *arguments)
        self.assertIs(error.__class__, kind)
        self.assertIs(getattr(error, attribute), value)

    def assert_bad_tie(self, position, call, *arguments):
        error = raised(call, *arguments)
        self.assertIs(error.__class__, BadTie)
        self.assertIs(error.position.__class__, int)
        self.assertEqual(error.position, position)


class Examples(WebCase):
    def test_examples_of_the_document(self):
        row, ring = row_web(), ring_web()
        self.assertEqual(row.places, ("a", "b", "c"))
        self.assertEqual(row.ties, (("a", "b"), ("c", "b")))
        self.assertEqual(row.sees("b"), ["a", "b", "c"])
        self.assertEqual(row.sees("c"), ["b", "c"])
        self.assertEqual(row.without(["b"]).parts(), [["a"], ["c"]])
        self.assertIs(row == Web(("c", "b", "a"), (("b", "c"), ("b", "a"))), True)
        self.assertIs(ring.tied([("a", "c")]) == ring, False)
        self.assertIs(ring.without(["d"]) == row, True)
        self.assert_bad_tie(1, row.tied, [("a", "c"), ("b", "a")])


class Making(WebCase):
    def test_places_and_ties_are_tuples_as_given(self):
        web = Web(["c", "a", "b"], [("b", "c"), ("a", "b")])
        self.assertEqual(web.places, ("c", "a", "b"))
        self.assertEqual(web.ties, (("b", "c"), ("a", "b")))
        for value in (web.places, web.ties, web.ties[0]):
            self.assertIs(value.__class__, tuple)

    def test_tuples_are_taken_too(self):
        web = Web(("c", "a"), (("a", "c"),))
        self.assertEqual((web.places, web.ties), (("c", "a"), (("a", "c"),)))

    def test_places_and_ties_are_properties(self):
        self.assertIsInstance(Web.places, property)
        self.assertIsInstance(Web.ties, property)
        web = row_web()
        for name in ("places", "ties"):
            with self.assertRaises(AttributeError):
                setattr(web, name, ())
        self.assertEqual(web, row_web())

    def test_methods_stand_in_the_class_itself(self):
        for name in ("places", "ties", "sees", "parts", "without", "tied", "__eq__"):
            self.assertIn(name, vars(Web))

    def test_no_ties(self):
        for web in (Web(["a", "b"]), Web(["a", "b"], []), Web(["a", "b"], ())):
            self.assertEqual((web.places, web.ties), (("a", "b"), ()))

    def test_arguments_by_name(self):
        web = Web(ties=[("a", "b"), ("c", "b")], places=["a", "b", "c"])
        self.assertEqual(web, row_web())
        self.assertEqual(web.sees(place="a"), ["a", "b"])
        self.assertEqual(web.without(places=["b"]).places, ("a", "c"))
        self.assertEqual(web.tied(ties=[("a", "c")]).ties[2:], (("a", "c"),))

    def test_fewest_and_most_places(self):
        self.assertEqual(Web(["a"]).places, ("a",))
        self.assertEqual(Web(TWELVE).places, tuple(TWELVE))
        self.assertEqual(len(full_web(12).ties), 66)

    def test_shortest_and_longest_names(self):
        names = ["a", "z", "abcdefgh", "zzzzzzzz"]
        self.assertEqual(Web(names, [("z", "zzzzzzzz")]).sees("z"), ["z", "zzzzzzzz"])

    def test_too_few_and_too_many_places(self):
        for places in ([], (), TWELVE + ["m"], tuple(TWELVE + ["m"]), ["a"] * 13, TWELVE * 3):
            self.assert_bad(BadPlaces, "value", places, Web, places)

    def test_places_twice(self):
        for places in (["a", "a"], ("b", "a", "b"), ["ab", "c", "ab"]):
            self.assert_bad(BadPlaces, "value", places, Web, places)

    def test_no_names(self):
        for name in NO_NAMES:
            for places in ([name], (name,), ["a", name], [name, "a", name]):
                with self.subTest(repr(places)):
                    self.assert_bad(BadPlaces, "value", places, Web, places)

    def test_any_value_that_is_no_places(self):
        for value in any_values() + ["a", "abc", {"a": 1, "b": 2}]:
            with self.subTest(repr(value)):
                self.assert_bad(BadPlaces, "value", value, Web, value)

    def test_any_value_that_is_no_ties(self):
        for value in NO_SEQUENCES + ["ab", {("a", "b"): 1}]:
            with self.subTest(repr(value)):
                self.assert_bad(BadTies, "value", value, Web, ["a", "b", "c"], value)

    def test_entries_that_are_no_ties(self):
        for entry in NO_TIES + any_values():
            with self.subTest(repr(entry)):
                self.assert_bad_tie(0, Web, ["a", "b", "c"], [entry])
                self.assert_bad_tie(0, Web, ["a", "b", "c"], (entry,))
                self.assert_bad_tie(1, Web, ["a", "b", "c"], [("a", "b"), entry, ("b", "c")])
                self.assert_bad_tie(2, Web, ["a", "b", "c"], [("a", "b"), ("b", "c"), entry])

    def test_a_tie_as_ties(self):
        self.assert_bad_tie(0, Web, ["a", "b"], ("a", "b"))

    def test_the_same_tie_again(self):
        self.assert_bad_tie(1, Web, ["a", "b"], [("a", "b"), ("a", "b")])
        self.assert_bad_tie(1, Web, ["a", "b"], [("a", "b"), ("b", "a")])
        self.assert_bad_tie(2, Web, ["a", "b", "c"], [("b", "a"), ("a", "c"), ("a", "b")])

    def test_the_first_bad_entry_counts(self):
        self.assert_bad_tie(1, Web, ["a", "b"], [("a", "b"), ("b", "b"), ("b", "a"), None])
        self.assert_bad_tie(1, Web, ["a", "b"], [("a", "b"), ("b", "a"), ("b", "b"), None])

    def test_which_error_comes_first(self):
        self.assert_bad(BadPlaces, "value", None, Web, None, None)
        self.assert_bad(BadPlaces, "value", None, Web, None, [None])
        self.assert_bad(BadPlaces, "value", True, Web, True, [("a", "b"), ("a", "b")])

    def test_arguments_stay_and_are_copied(self):
        places, ties = ["a", "b", "c"], [("a", "b"), ("c", "b")]
        web = Web(places, ties)
        self.assertEqual((places, ties), (["a", "b", "c"], [("a", "b"), ("c", "b")]))
        places.append("d")
        places[0] = "x"
        ties.append(("a", "c"))
        del ties[0]
        self.assertEqual((web.places, web.ties), (("a", "b", "c"), (("a", "b"), ("c", "b"))))
        self.assertEqual([web.sees("a"), web.parts(), web], [["a", "b"], [["a", "b", "c"]], row_web()])

    def test_arguments_stay_when_an_error_is_raised(self):
        places, ties = ["a", "b"], [("a", "b"), ["b", "a"]]
        raised(Web, places, ties)
        self.assertEqual((places, ties), (["a", "b"], [("a", "b"), ["b", "a"]]))


class Seeing(WebCase):
    def test_the_sequence_is_the_web_s(self):
        web = Web(["d", "a", "c", "b"], [("b", "a"), ("c", "a"), ("a", "d")])
        self.assertEqual(web.sees("a"), ["d", "a", "c", "b"])
        self.assertEqual(web.sees("b"), ["a", "b"])
        self.assertEqual(web.sees("c"), ["a", "c"])
        self.assertEqual(web.sees("d"), ["d", "a"])

    def test_a_place_alone_sees_itself(self):
        self.assertEqual(Web(["a"]).sees("a"), ["a"])
        self.assertEqual(Web(["a", "b"]).sees("b"), ["b"])

    def test_all_webs_of_four_places(self):
        for web in all_webs(4):
            for place in web.places:
                expected = [other for other in web.places if other == place
                            or (place, other) in web.ties or (other, place) in web.ties]
                self.assertEqual(web.sees(place), expected)

    def test_the_list_is_new(self):
        web = row_web()
        web.sees("b").clear()
        web.sees("a").append("c")
        self.assertEqual([web.sees("a"), web.sees("b")], [["a", "b"], ["a", "b", "c"]])
        self.assertEqual([web.parts(), web], [[["a", "b", "c"]], row_web()])

    def test_any_value_that_is_no_place(self):
        web = row_web()
        for value in any_values() + [["a"], ("a",), "d", "ab"]:
            with self.subTest(repr(value)):
                self.assert_bad(NoPlace, "value", value, web.sees, value)
        self.assertEqual(web, row_web())


class Parts(WebCase):
    def test_one_part(self):
        self.assertEqual(Web(["a"]).parts(), [["a"]])
        self.assertEqual(ring_web().parts(), [["a", "b", "c", "d"]])
        self.assertEqual(long_row(12).parts(), [TWELVE])

    def test_no_ties(self):
        self.assertEqual(Web(["c", "a", "b"]).parts(), [["c"], ["a"], ["b"]])
        self.assertEqual(Web(TWELVE).parts(), [[name] for name in TWELVE])

    def test_the_sequence_is_the_web_s(self):
        web = Web(["f", "e", "d", "c", "b", "a"], [("a", "d"), ("b", "e"), ("f", "a"), ("b", "c")])
        self.assertEqual(web.parts(), [["f", "d", "a"], ["e", "c", "b"]])

    def test_far_ends_hang_together(self):
        web = Web(["a", "c", "b", "d"], [("d", "c"), ("a", "b"), ("b", "d")])
        self.assertEqual(web.parts(), [["a", "c", "b", "d"]])

    def test_all_webs_of_four_places(self):
        for web in all_webs(4):
            parts = web.parts()
            self.assertEqual(sorted(sum(parts, [])), list(web.places))
            self.assertEqual(parts, sorted(parts, key=lambda part: web.places.index(part[0])))
            for part in parts:
                self.assertEqual(part, [place for place in web.places if place in part])
                seen = {other for place in part for other in web.sees(place)}
                self.assertEqual(seen, set(part))
                for size in range(1, len(part)):
                    for some in permutations(part, size):
                        self.assertNotEqual({other for place in some for other in web.sees(place)}, set(some))

    def test_the_lists_are_new(self):
        web = row_web()
        web.parts()[0].clear()
        web.parts().clear()
        self.assertEqual(web.parts(), [["a", "b", "c"]])


class Without(WebCase):
    def test_the_rest_keeps_its_sequence(self):
        web = Web(["d", "a", "c", "b"], [("b", "a"), ("c", "a"), ("a", "d"), ("d", "b")])
        less = web.without(["c"])
        self.assertEqual((less.places, less.ties), (("d", "a", "b"), (("b", "a"), ("a", "d"), ("d", "b"))))
        least = web.without(["b", "d"])
        self.assertEqual((least.places, least.ties), (("a", "c"), (("c", "a"),)))
        self.assertEqual([least.sees("a"), least.parts()], [["a", "c"], [["a", "c"]]])

    def test_none_and_all_but_one(self):
        ring = ring_web()
        same = ring.without([])
        self.assertIsNot(same, ring)
        self.assertEqual((same.places, same.ties), (ring.places, ring.ties))
        self.assertEqual(ring.without(["d", "a", "c"]).places, ("b",))
        self.assertEqual(ring.without(["d", "a", "c"]).ties, ())

    def test_any_value_that_is_no_list_of_places(self):
        ring = ring_web()
        values = any_values() + [
            "a", "ab", ("a",), (), ("a", "b"), {"a": 1}, ["a", "a"], ["a", "b", "a"], ["a", "x"], ["x"],
            ["a", None], ["a", True], ["a", ["b"]], ["a", {"b": 1}], [("a", "b")], ["a", ring],
            ["a", "b", "c", "d"], ["d", "c", "b", "a"], ["a", "b", "c", "d", "a"],
        ]
        for value in values:
            with self.subTest(repr(value)):
                self.assert_bad(BadPlaces, "value", value, ring.without, value)
        self.assertEqual((ring.places, ring.ties), (ring_web().places, ring_web().ties))

    def test_the_only_place(self):
        value = ["a"]
        self.assert_bad(BadPlaces, "value", value, Web(["a"]).without, value)
        self.assertEqual(Web(["a"]).without([]), Web(["a"]))

    def test_the_web_and_the_argument_stay(self):
        ring, places = ring_web(), ["b", "a"]
        ring.without(places)
        self.assertEqual(places, ["b", "a"])
        self.assertEqual((ring.places, ring.ties), (ring_web().places, ring_web().ties))
        self.assertEqual([ring.sees("a"), ring.parts()], [["a", "b", "d"], [["a", "b", "c", "d"]]])


class Tied(WebCase):
    def test_further_ties_stand_behind_the_others(self):
        web = Web(["a", "b", "c", "d"], [("b", "a")])
        more = web.tied([("d", "c"), ("a", "d")])
        self.assertEqual(more.places, ("a", "b", "c", "d"))
        self.assertEqual(more.ties, (("b", "a"), ("d", "c"), ("a", "d")))
        self.assertEqual([more.sees("d"), more.parts()], [["a", "c", "d"], [["a", "b", "c", "d"]]])

    def test_tuples_and_no_ties(self):
        row = row_web()
        self.assertEqual(row.tied((("c", "a"),)).ties, (("a", "b"), ("c", "b"), ("c", "a")))
        for ties in ([], ()):
            same = row.tied(ties)
            self.assertIsNot(same, row)
            self.assertEqual((same.places, same.ties), (row.places, row.ties))

    def test_any_value_that_is_no_ties(self):
        row = row_web()
        for value in NO_SEQUENCES + ["ac", {("a", "c"): 1}]:
            with self.subTest(repr(value)):
                self.assert_bad(BadTies, "value", value, row.tied, value)

    def test_entries_that_are_no_further_ties(self):
        row = row_web()
        for entry in NO_TIES + any_values() + [("a", "b"), ("b", "a"), ("b", "c"), ("c", "b")]:
            with self.subTest(repr(entry)):
                self.assert_bad_tie(0, row.tied, [entry])
                self.assert_bad_tie(1, row.tied, (("a", "c"), entry))
        self.assert_bad_tie(1, row.tied, [("a", "c"), ("c", "a")])
        self.assert_bad_tie(0, row.tied, [("b", "a"), None])
        self.assertEqual((row.places, row.ties), (row_web().places, row_web().ties))

    def test_the_web_stays_and_the_argument_is_copied(self):
        row, ties = row_web(), [("a", "c")]
        more = row.tied(ties)
        ties.append(None)
        self.assertEqual(more.ties, (("a", "b"), ("c", "b"), ("a", "c")))
        self.assertEqual(row.ties, (("a", "b"), ("c", "b")))
        self.assertEqual(row.sees("a"), ["a", "b"])


class Equal(WebCase):
    def test_no_sequence_counts(self):
        ring = ring_web()
        for places in permutations(ring.places):
            for ties in permutations(ring.ties):
                self.assertIs(ring == Web(places, ties), True)
        turned = Web(list("dcba"), [(other, one) for one, other in ring.ties])
        self.assertIs(ring == turned, True)
        self.assertIs(ring != turned, False)

    def test_other_places_or_ties(self):
        row = row_web()
        others = [
            Web(["a", "b", "c"]), Web(["a", "b", "c"], [("a", "b")]), Web(["a", "b", "c"], [("a", "b"), ("a", "c")]),
            Web(["a", "b", "c", "d"], row.ties), Web(["a", "b", "d"], [("a", "b"), ("d", "b")]), full_web(3),
        ]
        for other in others:
            self.assertIs(row == other, False)
            self.assertIs(other == row, False)
            self.assertIs(row != other, True)
        self.assertIs(Web(["a", "b"]) == Web(["a", "c"]), False)
        self.assertIs(Web(["a"]) == Web(["a", "b"]), False)

    def test_all_webs_of_four_places_differ(self):
        webs = list(all_webs(4))
        for at, one in enumerate(webs):
            for place, other in enumerate(webs):
                self.assertIs(one == other, at == place)

    def test_any_value(self):
        web = Web(["a"])
        values = [value for value in any_values() if not isinstance(value, Web)]
        for value in values + ["a", ("a",), ["a"], (("a",), ()), [["a"], []], {"a": ["a"]}]:
            with self.subTest(repr(value)):
                self.assertIs(web == value, False)
                self.assertIs(value == web, False)
                self.assertIs(web != value, True)
        self.assertIs(web == Web(["a"]), True)


class Again(WebCase):
    def test_the_same_call_returns_an_equal_result(self):
        web = Web(["d", "a", "c", "b"], [("b", "a"), ("c", "a")])
        for _ in range(3):
            self.assertEqual((web.places, web.ties), (("d", "a", "c", "b"), (("b", "a"), ("c", "a"))))
            self.assertEqual(web.sees("a"), ["a", "c", "b"])
            self.assertEqual(web.parts(), [["d"], ["a", "c", "b"]])
            self.assertEqual(web.without(["a"]).ties, ())
            self.assertEqual(web.tied([("d", "b")]).ties, (("b", "a"), ("c", "a"), ("d", "b")))
            self.assertEqual(web, Web(["d", "a", "c", "b"], [("b", "a"), ("c", "a")]))

    def test_wrong_values_stay_as_they_are(self):
        web = ring_web()
        for value in any_values():
            before = repr(value)
            for call in (Web, web.sees, web.without):
                raised(call, value)
            raised(web.tied, [value])
            self.assertEqual(repr(value), before)


if __name__ == "__main__":
    unittest.main()
