"""Tests of cornerturn.ranks."""

import unittest

from cornerturn.errors import NoPlace
from cornerturn.ranks import all_ranks, best_starts, is_ranks, rank_of, turns_needed
from cornerturn.webs import Web
from samples import all_webs, any_values, can_be_taken_apart, full_web, long_row, ring_web, row_web, some_webs


def rank_by_the_rules(web, guard, runner, limit, known):
    """Return the rank of a standing if it is at most a limit, and None otherwise, as point [4] says it."""
    if guard == runner:
        return 0
    if limit == 0:
        return None
    if (guard, runner, limit) not in known:
        known[guard, runner, limit] = None
        less = rank_by_the_rules(web, guard, runner, limit - 1, known)
        known[guard, runner, limit] = less
        if less is None:
            for place in web.sees(guard):
                if place == runner or all(
                        rank_by_the_rules(web, place, other, limit - 1, known) is not None
                        for other in web.sees(runner)):
                    known[guard, runner, limit] = limit
                    break
    return known[guard, runner, limit]


def ranks_by_the_rules(web):
    known = {}
    limit = len(web.places) ** 2
    return {(guard, runner): rank_by_the_rules(web, guard, runner, limit, known)
            for guard in web.places for runner in web.places}


def turns_by_the_rules(web):
    """Return the turns that a web needs and the list of the best places to start."""
    ranks = ranks_by_the_rules(web)
    found = {}
    for guard in web.places:
        row = [ranks[guard, runner] for runner in web.places]
        if None not in row:
            found[guard] = max(row)
    turns = min(found.values()) if found else None
    return turns, [guard for guard in found if found[guard] == turns]


class Examples(unittest.TestCase):
    def test_examples_of_the_document(self):
        row, ring = row_web(), ring_web()
        self.assertEqual([rank_of(row, "a", "c"), rank_of(row, "a", "b")], [2, 1])
        self.assertEqual([rank_of(ring, "a", "c"), rank_of(ring, "a", "b")], [None, 1])
        self.assertEqual([turns_needed(row), best_starts(row)], [1, ["b"]])
        self.assertEqual([turns_needed(ring), best_starts(ring)], [None, []])
        self.assertEqual(turns_needed(Web(["a"])), 0)
        self.assertEqual(len(all_ranks(row)), 9)
        self.assertIs(is_ranks(row, all_ranks(row)), True)
        self.assertIs(is_ranks(row, {}), False)
        self.assertIs(is_ranks(ring, None), False)


class Ranks(unittest.TestCase):
    def assert_ranks(self, web):
        expected = ranks_by_the_rules(web)
        self.assertEqual(all_ranks(web), expected)
        for rank in all_ranks(web).values():
            self.assertTrue(rank is None or rank.__class__ is int)
        self.assertIs(is_ranks(web, expected), True)
        for (guard, runner), rank in expected.items():
            self.assertEqual(rank_of(web, guard, runner), rank)

    def test_webs_of_one_and_two_places(self):
        self.assertEqual(all_ranks(Web(["x"])), {("x", "x"): 0})
        self.assertEqual(all_ranks(Web(["b", "a"], [("a", "b")])),
                         {("a", "a"): 0, ("a", "b"): 1, ("b", "a"): 1, ("b", "b"): 0})
        self.assertEqual(all_ranks(Web(["b", "a"])),
                         {("a", "a"): 0, ("a", "b"): None, ("b", "a"): None, ("b", "b"): 0})

    def test_row(self):
        self.assertEqual(all_ranks(row_web()), {
            ("a", "a"): 0, ("a", "b"): 1, ("a", "c"): 2,
            ("b", "a"): 1, ("b", "b"): 0, ("b", "c"): 1,
            ("c", "a"): 2, ("c", "b"): 1, ("c", "c"): 0,
        })

    def test_ring(self):
        ranks = all_ranks(ring_web())
        for guard, runner in ranks:
            far = (guard + runner) in ("ac", "ca", "bd", "db")
            self.assertEqual(ranks[guard, runner], None if far else int(guard != runner))

    def test_long_row(self):
        web = long_row(12)
        ranks = all_ranks(web)
        for guard in range(12):
            for runner in range(12):
                # A runner who is not beside the guard goes to the end on its side and waits there.
                expected = abs(guard - runner)
                if expected > 1:
                    expected = 11 - guard if runner > guard else guard
                self.assertEqual(ranks[web.places[guard], web.places[runner]], expected)

    def test_each_standing_of_a_long_row_agrees_with_all_ranks(self):
        for web in (long_row(12), long_row(12).without(["f"]), full_web(12), Web(list("lkjihgfedcba"))):
            ranks = all_ranks(web)
            self.assertEqual(list(ranks), [(guard, runner) for guard in web.places for runner in web.places])
            self.assertEqual({(guard, runner): rank_of(web, guard, runner) for guard, runner in ranks}, ranks)
            self.assertEqual(all_ranks(web), ranks)
        self.assertEqual(len(all_ranks(long_row(12))), 144)

    def test_webs_made_from_one_another_have_ranks_of_their_own(self):
        row = row_web()
        self.assertEqual(rank_of(row, "a", "c"), 2)
        self.assertEqual(rank_of(row.tied([("a", "c")]), "a", "c"), 1)
        self.assertEqual(rank_of(row.without(["b"]), "a", "c"), None)
        self.assertEqual(rank_of(row.without([]), "a", "c"), 2)
        self.assertEqual(rank_of(row, "a", "c"), 2)

    def test_asking_for_ranks_changes_no_comparison(self):
        asked, fresh = ring_web(), ring_web()
        all_ranks(asked)
        self.assertEqual([asked == fresh, fresh == asked, asked == row_web()], [True, True, False])

    def test_all_small_webs_by_the_rules(self):
        for many in (1, 2, 3, 4):
            for web in all_webs(many):
                self.assert_ranks(web)

    def test_some_larger_webs_by_the_rules(self):
        for many in (5, 6, 7, 8):
            for web in some_webs(many, 15):
                self.assert_ranks(web)
        for web in some_webs(12, 5):
            self.assertEqual(all_ranks(web), ranks_by_the_rules(web))

    def test_several_parts(self):
        web = Web(["d", "a", "b", "c"], [("a", "b"), ("b", "c")])
        self.assertEqual([rank_of(web, "a", "c"), rank_of(web, "a", "d"), rank_of(web, "d", "a")], [2, None, None])
        self.assertEqual([turns_needed(web), best_starts(web)], [None, []])

    def test_arguments_by_name(self):
        row = row_web()
        self.assertEqual(rank_of(runner="c", guard="a", web=row), 2)
        self.assertEqual(all_ranks(web=row), all_ranks(row))
        self.assertEqual([turns_needed(web=row), best_starts(web=row)], [1, ["b"]])
        self.assertIs(is_ranks(value=all_ranks(row), web=row), True)

    def assert_no_place(self, value, guard, runner):
        with self.assertRaises(NoPlace) as caught:
            rank_of(row_web(), guard, runner)
        self.assertIs(caught.exception.value, value)

    def test_any_value_that_is_no_place(self):
        for value in any_values() + [["a"], ("a",), "d", "ab"]:
            with self.subTest(repr(value)):
                self.assert_no_place(value, value, "a")
                self.assert_no_place(value, "a", value)
                self.assert_no_place(value, value, value)

    def test_the_guard_is_looked_at_first(self):
        first, second = ["x"], ["y"]
        self.assert_no_place(first, first, second)
        self.assert_no_place(None, None, True)
        self.assert_no_place(True, True, None)


class IsRanks(unittest.TestCase):
    def test_only_the_right_dict(self):
        for web in (row_web(), ring_web(), Web(["a"]), Web(["a", "b"]), full_web(3)):
            ranks = all_ranks(web)
            self.assertIs(is_ranks(web, ranks), True)
            self.assertIs(is_ranks(web, dict(reversed(list(ranks.items())))), True)
            for standing in ranks:
                for value in any_values() + [2, 3, 13, "0", "1", [0], (1,)]:
                    same = (value.__class__, value) == (ranks[standing].__class__, ranks[standing])
                    self.assertIs(is_ranks(web, {**ranks, standing: value}), same)
                less = dict(ranks)
                del less[standing]
                self.assertIs(is_ranks(web, less), False)

    def test_true_and_false_are_no_ranks(self):
        web = Web(["a", "b"], [("a", "b")])
        ranks = all_ranks(web)
        self.assertEqual({**ranks, ("a", "b"): True}, ranks)
        self.assertIs(is_ranks(web, {**ranks, ("a", "b"): True}), False)
        self.assertIs(is_ranks(web, {**ranks, ("a", "a"): False}), False)
        self.assertIs(is_ranks(Web(["a"]), {("a", "a"): False}), False)
        self.assertIs(is_ranks(Web(["a", "b"]), {**all_ranks(Web(["a", "b"])), ("a", "b"): False}), False)

    def test_further_and_other_keys(self):
        row = row_web()
        ranks = all_ranks(row)
        for key in (None, 0, "a", "ab", (), ("a",), ("a", "d"), ("a", "b", "c"), (0, 1), (True, False)):
            self.assertIs(is_ranks(row, {**ranks, key: 1}), False)
            self.assertIs(is_ranks(row, {**ranks, key: None}), False)
            changed = dict(ranks)
            del changed["c", "b"]
            changed[key] = 1
            self.assertIs(is_ranks(row, changed), False)

    def test_the_ranks_of_another_web(self):
        self.assertIs(is_ranks(row_web(), all_ranks(ring_web())), False)
        self.assertIs(is_ranks(ring_web(), all_ranks(row_web())), False)
        self.assertIs(is_ranks(ring_web(), all_ranks(full_web(4))), False)
        self.assertIs(is_ranks(Web(["c", "b", "a"], [("b", "c"), ("b", "a")]), all_ranks(row_web())), True)

    def test_any_value(self):
        items = [list(item) for item in all_ranks(row_web()).items()]
        for value in any_values() + [[], (), items, tuple(all_ranks(row_web())), row_web()]:
            with self.subTest(repr(value)):
                self.assertIs(is_ranks(row_web(), value), False)
                self.assertIs(is_ranks(Web(["a"]), value), False)


class Turns(unittest.TestCase):
    def assert_turns(self, web):
        turns, starts = turns_by_the_rules(web)
        self.assertEqual(turns_needed(web), turns)
        self.assertEqual(best_starts(web), starts)

    def test_rows(self):
        self.assertEqual([turns_needed(long_row(many)) for many in range(1, 13)], [0, 1, 1, 2, 2, 3, 3, 4, 4, 5, 5, 6])
        self.assertEqual(best_starts(long_row(11)), ["f"])
        self.assertEqual(best_starts(long_row(12)), ["f", "g"])
        self.assertEqual(best_starts(long_row(1)), ["a"])

    def test_full_webs(self):
        for many in range(2, 13):
            web = full_web(many)
            self.assertEqual([turns_needed(web), best_starts(web)], [1, list(web.places)])

    def test_rings(self):
        for many in range(4, 13):
            web = long_row(many).tied([("a", long_row(many).places[-1])])
            self.assertEqual([turns_needed(web), best_starts(web)], [None, []])

    def test_no_ties(self):
        for many in range(2, 13):
            web = Web(list("abcdefghijkl")[:many])
            self.assertEqual([turns_needed(web), best_starts(web)], [None, []])

    def test_the_sequence_is_the_web_s(self):
        self.assertEqual(best_starts(Web(["d", "b", "a", "c"], [("a", "b"), ("b", "d"), ("a", "c")])), ["b", "a"])
        self.assertEqual(best_starts(Web(["a", "d", "b", "c"], [("a", "b"), ("b", "d"), ("a", "c")])), ["a", "b"])

    def test_all_small_webs_by_the_rules(self):
        for many in (1, 2, 3, 4):
            for web in all_webs(many):
                self.assert_turns(web)

    def test_some_larger_webs_by_the_rules(self):
        for many in (5, 6, 7, 8):
            for web in some_webs(many, 15):
                self.assert_turns(web)

    def test_one_guard_is_enough_exactly_for_webs_that_can_be_taken_apart(self):
        for web in list(all_webs(5)) + list(some_webs(8, 100)) + list(some_webs(12, 50)):
            self.assertIs(turns_needed(web) is not None, can_be_taken_apart(web))
            self.assertIs(best_starts(web) != [], can_be_taken_apart(web))


class Unchanged(unittest.TestCase):
    def test_results_are_new_and_the_web_stays(self):
        for web in (row_web(), ring_web()):
            before = (web.places, web.ties, [web.sees(place) for place in web.places])
            ranks, starts = all_ranks(web), best_starts(web)
            all_ranks(web).clear()
            best_starts(web).append("x")
            self.assertEqual([all_ranks(web), best_starts(web)], [ranks, starts])
            self.assertIsNot(all_ranks(web), all_ranks(web))
            self.assertIs(is_ranks(web, ranks), True)
            self.assertEqual((web.places, web.ties, [web.sees(place) for place in web.places]), before)

    def test_the_same_call_returns_an_equal_result(self):
        row = row_web()
        value = all_ranks(row)
        for _ in range(3):
            self.assertEqual([rank_of(row, "c", "a"), turns_needed(row), best_starts(row)], [2, 1, ["b"]])
            self.assertIs(is_ranks(row, value), True)
            self.assertEqual(all_ranks(row), value)

    def test_arguments_stay(self):
        row = row_web()
        value = {**all_ranks(row), ("a", "a"): [1]}
        is_ranks(row, value)
        self.assertEqual(value, {**all_ranks(row), ("a", "a"): [1]})


if __name__ == "__main__":
    unittest.main()
