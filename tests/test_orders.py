"""Tests of cornerturn.orders."""

import unittest
from itertools import combinations, permutations, product

from cornerturn.errors import NoPlace
from cornerturn.orders import a_core, an_order, is_core, is_order, overlookers
from cornerturn.ranks import turns_needed
from cornerturn.webs import Web
from samples import (LETTERS, all_webs, any_values, can_be_taken_apart, full_web, long_row, looks, no_names, opposite,
                     ring_of, ring_web, row_web, some_webs, web_of_parts)


def overlooks(web, left, over, under):
    """Tell whether one place overlooks another one among those that are left, as point [5] says it."""
    return over != under and all(place in web.sees(over) for place in web.sees(under) if place in left)


def is_order_by_the_rules(web, order):
    left = list(web.places)
    for place, overlooker in order:
        if place not in left or overlooker not in left or not overlooks(web, left, overlooker, place):
            return False
        left.remove(place)
    return len(left) == 1


def cores_by_the_rules(web):
    """Return the set of all cores of a web, tuples in its sequence, by going through every sequence."""
    found, known, waiting = set(), set(), [tuple(web.places)]
    while waiting:
        left = waiting.pop()
        if left in known:
            continue
        known.add(left)
        gone = [under for under in left if any(overlooks(web, left, over, under) for over in left)]
        if not gone:
            found.add(left)
        for under in gone:
            waiting.append(tuple(place for place in left if place != under))
    return found


def several_webs():
    for many in (1, 2, 3, 4):
        yield from all_webs(many)
    for many in (5, 6, 7):
        yield from some_webs(many, 40)


def large_webs():
    yield from some_webs(12, 30)
    yield from (long_row(12), ring_of(12), full_web(12), Web(list(LETTERS)), opposite(ring_of(12)))
    yield from (web_of_parts(5, 4, 2, 1), web_of_parts(6, 6), web_of_parts(3, 3, 3, 3), opposite(web_of_parts(4, 4, 4)))


class Examples(unittest.TestCase):
    def test_examples_of_the_document(self):
        row, ring = row_web(), ring_web()
        self.assertEqual([overlookers(row, "a"), overlookers(row, "b")], [["b"], []])
        self.assertIs(is_order(row, [("a", "b"), ("c", "b")]), True)
        self.assertIs(is_order(row, [("b", "a"), ("a", "c")]), False)
        self.assertIs(is_order(row, an_order(row)), True)
        self.assertIs(an_order(ring), None)
        self.assertEqual([a_core(ring), len(a_core(row))], [["a", "b", "c", "d"], 1])
        self.assertEqual([is_core(row, ["c"]), is_core(row, ["a", "b"])], [True, False])


class Overlookers(unittest.TestCase):
    def test_by_the_rules(self):
        for web in [*several_webs(), *large_webs()]:
            for under in web.places:
                expected = [over for over in web.places if overlooks(web, web.places, over, under)]
                self.assertEqual(overlookers(web, under), expected)

    def test_the_sequence_is_the_web_s(self):
        web = Web(["d", "a", "c", "b"], [("a", "b"), ("b", "c"), ("c", "a"), ("d", "a"), ("b", "d"), ("d", "c")])
        self.assertEqual(overlookers(web, "c"), ["d", "a", "b"])
        self.assertEqual(overlookers(Web(["a", "b"]), "a"), [])
        self.assertEqual(overlookers(Web(["a"]), "a"), [])

    def test_any_value_that_is_no_place(self):
        row = row_web()
        for value in any_values() + [["a"], ("a",), "d", "ab"]:
            with self.subTest(repr(value)):
                with self.assertRaises(NoPlace) as caught:
                    overlookers(row, value)
                self.assertIs(caught.exception.value, value)
        self.assertEqual(looks(row), looks(row_web()))


class AnOrder(unittest.TestCase):
    def assert_order(self, web):
        order = an_order(web)
        if order is None:
            self.assertFalse(can_be_taken_apart(web))
            return
        self.assertIs(order.__class__, list)
        for entry in order:
            self.assertIs(entry.__class__, tuple)
        self.assertTrue(is_order_by_the_rules(web, order))
        self.assertIs(is_order(web, order), True)

    def test_by_the_rules(self):
        for web in [*several_webs(), *large_webs()]:
            self.assert_order(web)

    def test_there_is_an_order_exactly_if_one_guard_is_enough(self):
        for web in [*several_webs(), *large_webs()]:
            self.assertIs(an_order(web) is not None, turns_needed(web) is not None)

    def test_one_place(self):
        self.assertEqual(an_order(Web(["x"])), [])
        self.assertIs(is_order(Web(["x"]), []), True)

    def test_twelve_places(self):
        for web in (long_row(12), full_web(12)):
            self.assertEqual(len(an_order(web)), 11)
        for web in (ring_of(12), Web(list(LETTERS)), web_of_parts(3, 3, 3, 3)):
            self.assertIs(an_order(web), None)


class IsOrder(unittest.TestCase):
    def test_all_lists_of_entries_for_small_webs(self):
        for many in (1, 2, 3):
            for web in all_webs(many):
                couples = list(product(web.places, repeat=2))
                for length in range(many + 1):
                    for order in product(couples, repeat=length):
                        self.assertIs(is_order(web, list(order)), is_order_by_the_rules(web, order))

    def test_sequences_of_a_row(self):
        web = long_row(4)
        right = {"a": "b", "b": "c", "c": "b", "d": "c"}
        for names in permutations("abcd", 3):
            order = [(name, right[name]) for name in names]
            self.assertIs(is_order(web, order), is_order_by_the_rules(web, order))

    def test_only_the_places_that_are_left_count(self):
        web = long_row(4)
        self.assertIs(is_order(web, [("b", "c"), ("a", "b"), ("d", "c")]), False)
        self.assertIs(is_order(web, [("a", "b"), ("b", "c"), ("c", "d")]), True)
        self.assertIs(is_order(web, [("a", "b"), ("b", "a"), ("d", "c")]), False)
        self.assertIs(is_order(web, [("a", "b"), ("d", "c"), ("c", "b")]), True)

    def test_changed_orders(self):
        for web in (row_web(), long_row(6), full_web(4), long_row(12)):
            order = an_order(web)
            for at, entry in enumerate(order):
                place, overlooker = entry
                for changed in (order[:at] + order[at + 1:], order[:at] + [entry] + order[at:], order + [entry],
                                [entry] + order):
                    self.assertIs(is_order(web, changed), False)
                for wrong in no_names() + any_values():
                    for entry in (wrong, (wrong, overlooker), (place, wrong), (wrong, wrong)):
                        changed = order[:at] + [entry] + order[at + 1:]
                        self.assertIs(is_order(web, changed), changed == order)
                for wrong in ([place, overlooker], (place,), (place, overlooker, place), (), (place, place),
                              {place: overlooker}, {place: 1, overlooker: 2}, place + overlooker):
                    self.assertIs(is_order(web, order[:at] + [wrong] + order[at + 1:]), False)
                for other in web.places:
                    for wrong in ((other, overlooker), (place, other)):
                        changed = order[:at] + [wrong] + order[at + 1:]
                        self.assertIs(is_order(web, changed), is_order_by_the_rules(web, changed))
            for one, other in combinations(range(len(order)), 2):
                changed = list(order)
                changed[one], changed[other] = order[other], order[one]
                self.assertIs(is_order(web, changed), is_order_by_the_rules(web, changed))

    def test_the_last_place_is_not_taken_away(self):
        self.assertIs(is_order(row_web(), [("a", "b"), ("c", "b"), ("b", "b")]), False)
        self.assertIs(is_order(row_web(), [("a", "b"), ("c", "b"), ("b", "a")]), False)
        self.assertIs(is_order(Web(["a"]), [("a", "a")]), False)
        self.assertIs(is_order(row_web(), [("a", "b")]), False)

    def test_any_value(self):
        order = an_order(row_web())
        others = [tuple(order), dict(order), [list(entry) for entry in order], "ab", [], ["ab", "cb"], [order],
                  [order, order], row_web(), [row_web(), row_web()]]
        for value in any_values() + others:
            with self.subTest(repr(value)):
                self.assertIs(is_order(row_web(), value), False)
                self.assertIs(is_order(ring_web(), value), False)
                self.assertIs(is_order(Web(["a"]), value), value == [] and value.__class__ is list)

    def test_webs_without_an_order(self):
        for web in (ring_web(), Web(["a", "b"]), web_of_parts(2, 1)):
            couples = list(product(web.places, repeat=2))
            for order in product(couples, repeat=len(web.places) - 1):
                self.assertIs(is_order(web, list(order)), False)


class Cores(unittest.TestCase):
    def test_all_lists_of_places_by_the_rules(self):
        for web in several_webs():
            cores = cores_by_the_rules(web)
            self.assertIn(tuple(a_core(web)), cores)
            for many in range(len(web.places) + 1):
                for some in combinations(web.places, many):
                    self.assertIs(is_core(web, list(some)), some in cores)
                    self.assertIs(is_core(web, list(reversed(some))), some in cores)

    def test_large_webs(self):
        for web in large_webs():
            core = a_core(web)
            self.assertIs(core.__class__, list)
            self.assertEqual(core, [place for place in web.places if place in core])
            self.assertIs(is_core(web, core), True)
            self.assertFalse(any(overlooks(web, core, over, under) for over in core for under in core))
            self.assertIs(len(core) == 1, can_be_taken_apart(web))

    def test_cores_that_are_known(self):
        self.assertEqual(a_core(Web(["x"])), ["x"])
        self.assertEqual(a_core(Web(list("cab"))), ["c", "a", "b"])
        self.assertEqual(a_core(ring_of(12)), list(LETTERS))
        self.assertEqual(len(a_core(web_of_parts(3, 3, 3, 3))), 4)
        self.assertEqual(len(a_core(long_row(12))), 1)
        tailed = Web(list("eadbc"), list(ring_web().ties) + [("a", "e")])
        self.assertEqual(a_core(tailed), ["a", "d", "b", "c"])
        for core in permutations("abcd"):
            self.assertIs(is_core(tailed, list(core)), True)

    def test_alike_is_not_enough(self):
        web = Web(list("abcdef"), [tuple(tie) for tie in "ab ac ae bc bd bf ce cf de ef".split()])
        # a, b, f, e are a ring of four, as all cores are, but no sequence leaves just them.
        self.assertEqual(web.without(["c", "d"]), Web(list("abfe"), [tuple(tie) for tie in "ab bf fe ea".split()]))
        self.assertIs(is_core(web, list("abef")), False)
        self.assertEqual([is_core(web, list(core)) for core in ("bdef", "abde", "bcde")], [True, True, True])
        rings = web_of_parts(4, 4)
        self.assertEqual([is_core(rings, list(core)) for core in ("abcd", "efgh", "abcdefgh")], [False, False, True])

    def test_twins_can_stand_for_one_another(self):
        web = Web(list("abcde"), [*ring_web().ties, ("a", "e"), ("e", "b"), ("e", "d")])
        self.assertEqual([is_core(web, list(core)) for core in ("abcd", "ebcd", "aebc", "abcde", "ab")],
                         [True, True, False, False, False])

    def test_any_value(self):
        for web in (row_web(), ring_web(), Web(["a"]), Web(["a", "b"])):
            core = a_core(web)
            others = [tuple(core), [core], [tuple(core)], "".join(core), dict.fromkeys(core), core + core,
                      core + core[:1], core[:-1], core + ["q"]]
            for value in any_values() + no_names() + others:
                expected = value.__class__ is list and value in [list(one) for one in cores_by_the_rules(web)]
                with self.subTest(repr(value)):
                    self.assertIs(is_core(web, value), expected)
            for at in range(len(core)):
                for wrong in no_names() + any_values():
                    self.assertIs(is_core(web, core[:at] + [wrong] + core[at + 1:]), False)
                self.assertIs(is_core(web, core[:at] + core[at:at + 1] + core[at:]), False)


class Unchanged(unittest.TestCase):
    def test_results_are_new_and_the_web_stays(self):
        for web in (row_web(), ring_web(), Web(["a"]), long_row(12)):
            before = looks(web)
            first = [overlookers(web, web.places[0]), a_core(web), an_order(web)]
            overlookers(web, web.places[0]).append("q")
            a_core(web).clear()
            (an_order(web) or []).append(("q", "q"))
            (an_order(web) or []).clear()
            self.assertEqual([overlookers(web, web.places[0]), a_core(web), an_order(web)], first)
            self.assertEqual(looks(web), before)

    def test_arguments_stay(self):
        web, order, core = row_web(), [("a", "b"), ("c", "b")], ["c"]
        self.assertEqual([is_order(web, order), is_core(web, core)], [True, True])
        self.assertEqual([is_order(web, order), is_core(web, core)], [True, True])
        self.assertEqual((looks(web), order, core), (looks(row_web()), [("a", "b"), ("c", "b")], ["c"]))
        for value in any_values():
            before = repr(value)
            is_order(web, value)
            is_core(web, value)
            self.assertEqual(repr(value), before)

    def test_arguments_by_name(self):
        row = row_web()
        self.assertEqual([overlookers(place="a", web=row), a_core(web=row)], [["b"], a_core(row)])
        self.assertEqual(an_order(web=row), an_order(row))
        self.assertIs(is_order(value=[("a", "b"), ("c", "b")], web=row), True)
        self.assertIs(is_core(value=["c"], web=row), True)


if __name__ == "__main__":
    unittest.main()
