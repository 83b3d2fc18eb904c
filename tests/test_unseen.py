"""Tests of cornerturn.unseen."""

import unittest
from itertools import chain, combinations, product
from unittest import mock

from cornerturn import unseen
from cornerturn.errors import BadPlan, BadTie, WebError
from cornerturn.unseen import a_refuge, a_walk, catches, is_refuge, lots, walk_turns
from cornerturn.webs import Web
from samples import (LETTERS, Mixed, all_webs, any_values, full_web, long_row, looks, no_names, opposite, ring_of,
                     ring_web, row_web, some_webs, turned, turned_webs, web_of_parts)


def lot_behind(web, lot, place):
    """Return the set of where the runners of a lot can be when the guard has moved to a place and they have moved."""
    return frozenset(step for runner in lot if runner != place for step in web.sees(runner) if step != place)


def lots_by_the_rules(web, walk):
    lot = frozenset(web.places) - {walk[0]}
    found = [lot]
    for place in walk[1:]:
        lot = lot_behind(web, lot, place)
        found.append(lot)
    return [[place for place in web.places if place in some] for some in found]


def walk_turns_by_the_rules(web):
    """Return the turns of a shortest walk that catches, None if none does, by all that walks lead to."""
    reached = {(place, frozenset(web.places) - {place}) for place in web.places}
    known, turns = set(reached), 0
    while reached:
        if any(not lot for _, lot in reached):
            return turns
        reached = {(step, lot_behind(web, lot, step)) for place, lot in reached for step in web.sees(place)} - known
        known |= reached
        turns += 1
    return None


def is_refuge_by_the_rules(web, value):
    """Tell whether a list of tuples of a place and a good lot for it is a refuge, as point [16] says it."""
    if {place for place, _ in value} != set(web.places):
        return False
    return all(any(there == step and set(later) <= lot_behind(web, lot, step) for there, later in value)
               for place, lot in value for step in web.sees(place))


def walks_of(web, many):
    """Yield all walks of so many places."""
    for walk in product(web.places, repeat=many):
        if all(place in web.sees(before) for before, place in zip(walk, walk[1:])):
            yield list(walk)


def good_entries(web):
    """Return the list of all tuples of a place and some other places in the web's sequence."""
    others = {place: [other for other in web.places if other != place] for place in web.places}
    return [(place, lot) for place in web.places
            for lot in chain.from_iterable(combinations(others[place], many) for many in range(1, len(web.places)))]


def forked_web():
    """Return the web of seven places with three arms of two, which no walk clears."""
    return Web(list("abcdefg"), [("a", "b"), ("b", "c"), ("a", "d"), ("d", "e"), ("a", "f"), ("f", "g")])


def hard_webs():
    """Return webs for which no walk catches."""
    return [Web(["a", "b"]), full_web(3), ring_web(), ring_of(7), full_web(7), Web(list("abcdefg")), web_of_parts(2, 2),
            web_of_parts(4, 3), opposite(ring_of(6)), forked_web(), *turned_webs()[1:]]


def easy_webs():
    """Return webs for which some walk catches."""
    comb = Web(list("abcdefg"), [("a", "b"), ("b", "c"), ("c", "d"), ("a", "e"), ("b", "f"), ("c", "g")])
    star = Web(list("abcdefg"), [("a", place) for place in "bcdefg"])
    return [*[long_row(many) for many in range(1, 8)], star, comb, turned(long_row(7)), turned(comb)]


class Examples(unittest.TestCase):
    def test_examples_of_the_document(self):
        row, ring = row_web(), ring_web()
        self.assertEqual(lots(row, ["a", "b", "c"]), [["b", "c"], ["c"], []])
        self.assertEqual([catches(row, ["a", "b", "c"]), catches(row, ["b", "a", "b"])], [True, False])
        self.assertEqual([walk_turns(row), len(a_walk(row)), walk_turns(ring), a_walk(ring)], [2, 3, None, None])
        self.assertEqual([is_refuge(ring, a_refuge(ring)), a_refuge(row), is_refuge(row, [])], [True, None, False])
        self.assertEqual(walk_turns(Web(["x"])), 0)
        with self.assertRaises(BadPlan) as caught:
            lots(row, ["a", "c"])
        self.assertEqual(caught.exception.value, ["a", "c"])


class Lots(unittest.TestCase):
    def assert_lots(self, web, walk):
        expected = lots_by_the_rules(web, walk)
        self.assertEqual(lots(web, walk), expected)
        self.assertIs(catches(web, walk), expected[-1] == [])

    def test_all_walks_of_small_webs(self):
        for web in [*all_webs(1), *all_webs(2), *all_webs(3), *all_webs(4)]:
            for many in (1, 2, 3, 4):
                for walk in walks_of(web, many):
                    self.assert_lots(web, walk)

    def test_mixed_walks(self):
        mixed = Mixed()
        for web in [*some_webs(5, 30), *some_webs(7, 60), *hard_webs(), *easy_webs()]:
            for _ in range(10):
                walk = [mixed.of(web.places)]
                for _ in range(mixed.below(20)):
                    walk.append(mixed.of(web.sees(walk[-1])))
                self.assert_lots(web, walk)

    def test_a_walk_may_stay_and_go_on(self):
        row = row_web()
        self.assertEqual(lots(row, ["b", "b", "b"]), [["a", "c"], ["a", "c"], ["a", "c"]])
        self.assertEqual(lots(row, ["a", "b", "c", "c", "b"]), [["b", "c"], ["c"], [], [], []])
        self.assertEqual([catches(row, ["a", "b", "c", "c"]), catches(row, ["a", "b", "c", "b", "a"])], [True, True])
        # A walk may come back to where it was, and the runner with it.
        self.assertEqual(lots(long_row(4), ["a", "b", "a"]), [["b", "c", "d"], ["c", "d"], ["b", "c", "d"]])

    def test_walks_of_one_place(self):
        for web in (Web(["x"]), row_web(), full_web(7)):
            for place in web.places:
                others = [other for other in web.places if other != place]
                self.assertEqual((lots(web, [place]), catches(web, [place])), ([others], not others))

    def test_a_long_walk(self):
        self.assert_lots(long_row(7), ["a", "b"] * 500 + list("bcdefg"))

    def test_the_sequence_of_the_web(self):
        web = Web(["c", "a", "b"], [("a", "b")])
        self.assertEqual(lots(web, ["a", "b"]), [["c", "b"], ["c"]])

    def test_any_value(self):
        web = ring_web()
        values = [*any_values(), *no_names()[:6], [], ("a",), ("a", "b"), "a", "ab", {"a": 1}, ["a", "c"],
                  ["a", "b", "d"], ["a", "b", None], ["a", ["b"]], [["a"]], ["a", "b", "q"], ["q"], [("a", "b")],
                  ["a", 1], [None, "a"],
                  ["a", True], ["ab"], [BadTie(0)], ["a", "b", "c", "a"], ["e"], [web]]
        for value in values:
            with self.subTest(repr(value)):
                self.assertIs(catches(web, value), False)
                self.assertIs(catches(Web(["x"]), value), False)
                with self.assertRaises(BadPlan) as caught:
                    lots(web, value)
                self.assertIs(caught.exception.value, value)
        self.assertIs(catches(Web(["x"]), ("x",)), False)
        with self.assertRaises(WebError):
            lots(web, None)

    def test_walks_with_one_change(self):
        for web in easy_webs()[1:]:
            walk = a_walk(web)
            for at in range(len(walk)):
                for wrong in [*any_values(), *no_names(), *LETTERS[:8]]:
                    changed = [*walk[:at], wrong, *walk[at + 1:]]
                    expected = all(isinstance(place, str) and place in web.places for place in changed)
                    if expected and all(place in web.sees(before) for before, place in zip(changed, changed[1:])):
                        self.assert_lots(web, changed)
                    else:
                        self.assertIs(catches(web, changed), False)
                        with self.assertRaises(BadPlan):
                            lots(web, changed)


class Walks(unittest.TestCase):
    def assert_walk(self, web):
        walk, turns = a_walk(web), walk_turns_by_the_rules(web)
        self.assertEqual(walk_turns(web), turns)
        if turns is None:
            self.assertIs(walk, None)
            return
        self.assertIs(walk.__class__, list)
        self.assertEqual(len(walk), turns + 1)
        self.assertIs(catches(web, walk), True)
        self.assertEqual(lots_by_the_rules(web, walk)[-1], [])

    def test_small_webs(self):
        for many in (1, 2, 3, 4):
            for web in all_webs(many):
                self.assert_walk(web)

    def test_larger_webs(self):
        for web in [*some_webs(5, 60), *some_webs(6, 60), *some_webs(7, 100), *hard_webs(), *easy_webs()]:
            self.assert_walk(web)

    def test_all_shorter_walks_fail(self):
        for web in [*all_webs(4), long_row(5)]:
            turns = walk_turns(web)
            most = 4 if turns is None else turns
            for many in range(1, most + 1):
                for walk in walks_of(web, many):
                    self.assertNotEqual(lots_by_the_rules(web, walk)[-1], [])

    def test_known_webs(self):
        self.assertEqual([walk_turns(long_row(many)) for many in range(1, 8)], [0, 1, 2, 3, 4, 5, 6])
        self.assertEqual([walk_turns(web) for web in hard_webs()], [None] * 14)
        self.assertEqual([walk_turns(full_web(2)), walk_turns(full_web(3))], [1, None])
        self.assertEqual((a_walk(Web(["x"])), walk_turns(Web(["x"]))), (["x"], 0))

    def test_walks_and_refuges_are_looked_for_once(self):
        for web in (long_row(7), ring_of(7)):
            with mock.patch.object(unseen, "shortest_walk", wraps=unseen.shortest_walk) as walks:
                with mock.patch.object(unseen, "small_refuge", wraps=unseen.small_refuge) as refuges:
                    for _ in range(3):
                        self.assertEqual((a_walk(web), a_refuge(web)), (a_walk(web), a_refuge(web)))
                        walk_turns(web)
                    self.assertEqual((walks.call_count, refuges.call_count), (1, 1))


class Refuges(unittest.TestCase):
    def assert_refuge(self, web):
        value = a_refuge(web)
        if walk_turns_by_the_rules(web) is not None:
            self.assertIs(value, None)
            return
        self.assertIs(value.__class__, list)
        for entry in value:
            self.assertIn(entry, good_entries(web))
        self.assertTrue(is_refuge_by_the_rules(web, value))
        self.assertIs(is_refuge(web, value), True)

    def test_small_webs(self):
        for many in (1, 2, 3, 4):
            for web in all_webs(many):
                self.assert_refuge(web)

    def test_larger_webs(self):
        for web in [*some_webs(5, 60), *some_webs(6, 60), *some_webs(7, 100), *hard_webs(), *easy_webs()]:
            self.assert_refuge(web)

    def test_all_that_walks_lead_to_is_a_refuge(self):
        for web in hard_webs():
            reached = [(place, frozenset(web.places) - {place}) for place in web.places]
            for place, lot in reached:
                for step in web.sees(place):
                    later = (step, lot_behind(web, lot, step))
                    if later not in reached:
                        reached.append(later)
            value = [(place, tuple(other for other in web.places if other in lot)) for place, lot in reached]
            self.assertIs(is_refuge(web, value), True)
            self.assertIs(is_refuge(web, value[::-1]), True)


class IsRefuge(unittest.TestCase):
    def test_all_lists_of_entries_of_small_webs(self):
        for web in [*all_webs(1), *all_webs(2), *all_webs(3)]:
            entries = good_entries(web)
            for chosen in product([False, True], repeat=len(entries)):
                value = [entry for entry, taken in zip(entries, chosen) if taken]
                self.assertIs(is_refuge(web, value), is_refuge_by_the_rules(web, value))

    def test_mixed_lists(self):
        mixed = Mixed()
        counts = {True: 0, False: 0}
        for web in [*hard_webs(), *some_webs(4, 40), *some_webs(5, 30), *some_webs(7, 20)]:
            entries, value = good_entries(web), a_refuge(web) or []
            for _ in range(12):
                some = [entry for entry in value if mixed.below(20)]
                some += [mixed.of(entries) for _ in range(mixed.below(4))]
                expected = is_refuge_by_the_rules(web, some)
                self.assertIs(is_refuge(web, some), expected)
                counts[expected] += 1
        self.assertGreater(min(counts.values()), 100)

    def test_entries_left_out_doubled_put_in_and_changed(self):
        for web in [*hard_webs(), *some_webs(6, 10)]:
            value = a_refuge(web)
            if value is None:
                continue
            self.assertIs(is_refuge(web, value + value), True)
            self.assertIs(is_refuge(web, value[::-1]), True)
            for at in range(len(value)):
                less = value[:at] + value[at + 1:]
                self.assertIs(is_refuge(web, less), is_refuge_by_the_rules(web, less))
                place, lot = value[at]
                for other in web.places:
                    if other != place:
                        fewer = tuple(one for one in lot if one != other) or lot
                        more = tuple(one for one in web.places if one in lot or one == other)
                        for changed in (fewer, more):
                            some = [*value[:at], (place, changed), *value[at + 1:]]
                            self.assertIs(is_refuge(web, some), is_refuge_by_the_rules(web, some))

    def test_wrong_entries(self):
        ring = ring_web()
        value = a_refuge(ring)
        self.assertIs(is_refuge(ring, value), True)
        wrong = [*any_values(), *no_names(), ("a", ()), ("a", ("a",)), ("a", ("a", "b")), ("a", ("c", "b")), ("a", "c"),
                 ("a", ("b", "b")), ("a", ["b", "c"]), ["a", ("b", "c")], ("q", ("b",)), ("a", ("q",)),
                 ("a", ("b", "q")), ("a", ("b", "c", "d", "a")), ("a", ("a", "b", "c", "d")), ("a", None),
                 (None, ("b",)), ("a", ("b",), ("c",)), (("b",), "a"),
                 ("a", (("b",),)), ("a", {"b": 1}), ("a", "bcd"), ("a", (None,)), ("a", (1,)), ("a", ("b", None)),
                 ("a", ("b", "d", "c")), ("a", ("b", "c", "c")), (True, ("b",)), (["a"], ("b",)), {"a": ("b",)}]
        for entry in wrong:
            with self.subTest(repr(entry)):
                self.assertIs(is_refuge(ring, [*value, entry]), False)
                self.assertIs(is_refuge(ring, [entry, *value]), False)
                self.assertIs(is_refuge(ring, [entry]), False)
                self.assertIs(is_refuge(ring, [entry, *value[1:]]), False)

    def test_empty_lots(self):
        for web in (Web(["a"]), Web(["a", "b"]), row_web(), ring_web()):
            self.assertIs(is_refuge(web, [(place, ()) for place in web.places]), False)

    def test_the_sequence_of_the_web(self):
        web = Web(["c", "a", "b"])
        value = [("c", ("a", "b")), ("a", ("c", "b")), ("b", ("c", "a"))]
        self.assertIs(is_refuge(web, value), True)
        self.assertIs(is_refuge(web, [("c", ("a", "b")), ("a", ("b", "c")), ("b", ("c", "a"))]), False)

    def test_each_entry_counts_though_it_never_comes_up(self):
        web = web_of_parts(2, 1)
        value = [("a", ("c",)), ("b", ("c",)), ("c", ("a", "b"))]
        self.assertIs(is_refuge(web, value), True)
        for entry, expected in ((("c", ("a",)), True), (("c", ("b",)), True), (("a", ("b", "c")), True),
                                (("a", ("b",)), False), (("b", ("a",)), False)):
            self.assertIs(is_refuge(web, [*value, entry]), expected)

    def test_an_entry_for_each_place(self):
        value = a_refuge(ring_web())
        for place in "abcd":
            self.assertIs(is_refuge(ring_web(), [entry for entry in value if entry[0] != place]), False)
        # Where the guard begins in one part, it never comes to the other one.
        part = [("a", ("b",))]
        self.assertEqual([is_refuge(Web(["a", "b"]), part), is_refuge(Web(["a", "b"]), [*part, ("b", ("a",))])],
                         [False, True])

    def test_any_value(self):
        value = a_refuge(ring_web())
        for wrong in [*any_values(), *no_names(), [], (), tuple(value), dict(value), [value], (value,), value[0], {}]:
            for web in (ring_web(), row_web(), Web(["a"]), Web(["a", "b"])):
                self.assertIs(is_refuge(web, wrong), False)

    def test_webs_that_some_walk_clears(self):
        for web in easy_webs():
            self.assertIs(is_refuge(web, good_entries(web)), False)


class Calls(unittest.TestCase):
    def test_results_are_new_and_the_web_stays(self):
        for web in [*hard_webs(), *easy_webs()]:
            before = looks(web)
            walk, value, first = a_walk(web), a_refuge(web), web.places[:1]
            if walk is not None:
                a_walk(web).clear()
            if value is not None:
                a_refuge(web).append("q")
                a_refuge(web).clear()
            self.assertEqual((a_walk(web), a_refuge(web)), (walk, value))
            found = lots(web, [*first, *first])
            lots(web, [*first, *first])[0].append("q")
            lots(web, [*first, *first]).clear()
            self.assertEqual(lots(web, [*first, *first]), found)
            self.assertEqual(looks(web), before)

    def test_arguments_stay(self):
        ring, walk = ring_web(), ["a", "b", "b"]
        value = a_refuge(ring)
        lots(ring, walk)
        catches(ring, walk)
        is_refuge(ring, value)
        self.assertEqual((walk, value, looks(ring)), (["a", "b", "b"], a_refuge(ring_web()), looks(ring_web())))
        for value in any_values():
            before = repr(value)
            with self.assertRaises(BadPlan):
                lots(ring, value)
            catches(ring, value)
            is_refuge(ring, value)
            self.assertEqual(repr(value), before)

    def test_arguments_by_name(self):
        row, ring = row_web(), ring_web()
        self.assertEqual(lots(walk=["a", "b", "c"], web=row), [["b", "c"], ["c"], []])
        self.assertIs(catches(value=["a", "b", "c"], web=row), True)
        self.assertEqual([walk_turns(web=row), len(a_walk(web=row))], [2, 3])
        self.assertIs(is_refuge(value=a_refuge(web=ring), web=ring), True)


if __name__ == "__main__":
    unittest.main()
