"""Tests of cornerturn.chases."""

import unittest
from unittest import mock

from cornerturn import games
from cornerturn.chases import Chase
from cornerturn.errors import BadMove, NoPlace, TooFar, WebError
from cornerturn.ranks import all_ranks, best_starts, rank_of, turns_needed
from cornerturn.webs import Web
from rules import OneGuard, answers_by_the_rules, ranks_by_the_rules
from samples import (LETTERS, Mixed, all_webs, any_values, full_web, long_row, looks, no_names, opposite, renamed,
                     ring_of, ring_web, row_web, some_webs, turned_webs, web_of_parts)


def chase_with(web, *moves):
    chase = Chase(web)
    for place in moves:
        chase.move(place)
    return chase


def look(chase):
    """Return all that can be seen of a chase."""
    return chase.web, chase.guard, chase.runner, chase.turns, chase.who, chase.left(), chase.best()


def all_stands(web):
    """Yield chases for all that a play of a web can come to."""
    yield Chase(web)
    for guard in web.places:
        yield chase_with(web, guard)
        for runner in web.places:
            yield chase_with(web, guard, runner)
            if guard != runner:
                for place in web.sees(guard):
                    yield chase_with(web, guard, runner, place)


class Examples(unittest.TestCase):
    def test_examples_of_the_document(self):
        chase = Chase(row_web())
        self.assertEqual([chase.who, chase.left(), chase.best(), chase.move("a")], ["guard", 1, ["b"], None])
        self.assertEqual([chase.who, chase.left(), chase.best()], ["runner", 2, ["c"]])
        self.assertEqual([chase.move("c"), chase.left(), chase.best(), chase.move("b")], [None, 2, ["b"], None])
        self.assertEqual([chase.turns, chase.best(), chase.move("b")], [1, ["c"], None])
        self.assertEqual([chase.who, chase.left(), chase.undo(2)], ["none", 0, None])
        self.assertEqual([chase.guard, chase.runner], ["a", "c"])
        with self.assertRaises(BadMove) as caught:
            chase.move("c")
        self.assertEqual(caught.exception.value, "c")


class Answers(unittest.TestCase):
    def assert_answers(self, web):
        rules = OneGuard(web)
        ranks = ranks_by_the_rules(rules)
        for chase in all_stands(web):
            self.assertEqual((chase.left(), chase.best()), answers_by_the_rules(rules, ranks, chase, chase.guard))

    def test_small_webs(self):
        for many in (1, 2, 3, 4):
            for web in all_webs(many):
                self.assert_answers(web)

    def test_larger_webs(self):
        for web in [*some_webs(6, 15), *some_webs(9, 5), *some_webs(12, 3), long_row(12), ring_of(12), full_web(12),
                    Web(list(LETTERS)), web_of_parts(5, 4, 2, 1), opposite(ring_of(9)), *turned_webs()]:
            self.assert_answers(web)

    def test_best_moves_reach_what_is_left(self):
        for web in [*all_webs(4), *some_webs(8, 20)]:
            for chase in all_stands(web):
                self.assert_best_moves_reach(chase)

    def assert_best_moves_reach(self, chase):
        left, best = chase.left(), chase.best()
        if chase.who == "none":
            self.assertEqual((left, best), (0, []))
            return
        # The guard's move is one of the turns that were left.
        spent = 1 if chase.who == "guard" and chase.runner is not None else 0
        found = []
        for place in chase.web.places:
            ahead = chase.fork()
            try:
                ahead.move(place)
            except BadMove:
                continue
            later = ahead.left()
            later = None if later is None else later + spent
            if later == left:
                found.append(place)
            elif chase.who == "guard":
                self.assertTrue(later is None or later > left)
            else:
                self.assertTrue(left is None or later < left)
        self.assertEqual(best, found)
        self.assertTrue(best)

    def test_the_beginning(self):
        for web in [*all_webs(4), *some_webs(10, 20), ring_of(12)]:
            chase = Chase(web)
            self.assertEqual(chase.left(), turns_needed(web))
            expected = list(web.places) if chase.left() is None else best_starts(web)
            self.assertEqual(chase.best(), expected)

    def test_plays_with_best_moves(self):
        for web in [*all_webs(4), *some_webs(7, 20), long_row(12), full_web(12)]:
            turns = turns_needed(web)
            chase = Chase(web)
            chase.move(chase.best()[0])
            chase.move(chase.best()[-1])
            for done in range(12):
                if chase.who == "none":
                    break
                self.assertEqual((chase.turns, chase.left()), (done, None if turns is None else turns - done))
                chase.move(chase.best()[-1])
                if chase.who == "runner":
                    chase.move(chase.best()[0])
            if turns is None:
                self.assertEqual((chase.who, chase.turns), ("guard", 12))
            else:
                self.assertEqual((chase.who, chase.turns, chase.left(), chase.best()), ("none", turns, 0, []))

    def test_the_runner_can_get_away_for_ever(self):
        chase = Chase(ring_web())
        self.assertEqual((chase.left(), chase.best()), (None, ["a", "b", "c", "d"]))
        chase.move("a")
        self.assertEqual((chase.left(), chase.best()), (None, ["c"]))
        chase.move("c")
        self.assertEqual((chase.left(), chase.best()), (None, ["a", "b", "d"]))
        chase.move("d")
        self.assertEqual((chase.left(), chase.best()), (None, ["b"]))
        # The runner has stayed where it was, beside the guard.
        chase.move("c")
        self.assertEqual((chase.left(), chase.best()), (1, ["c"]))

    def test_web_of_one_place(self):
        chase = Chase(Web(["x"]))
        self.assertEqual(look(chase)[1:], (None, None, 0, "guard", 0, ["x"]))
        chase.move("x")
        self.assertEqual(look(chase)[1:], ("x", None, 0, "runner", 0, ["x"]))
        chase.move("x")
        self.assertEqual(look(chase)[1:], ("x", "x", 0, "none", 0, []))

    def test_webs_in_parts(self):
        chase = Chase(web_of_parts(2, 1))
        self.assertEqual((chase.left(), chase.best()), (None, ["a", "b", "c"]))
        chase.move("a")
        self.assertEqual((chase.left(), chase.best()), (None, ["c"]))
        chase.move("b")
        self.assertEqual((chase.left(), chase.best()), (1, ["b"]))

    def test_the_guard_is_to_move(self):
        chase = chase_with(long_row(5), "a", "d")
        self.assertEqual((chase.left(), chase.best()), (4, ["b"]))
        chase.move("a")
        self.assertEqual((chase.who, chase.left(), chase.best()), ("runner", 4, ["c", "d", "e"]))
        chase.undo(1)
        chase.move("b")
        self.assertEqual((chase.who, chase.left(), chase.best()), ("runner", 3, ["d", "e"]))


class Moves(unittest.TestCase):
    def test_who_is_to_move(self):
        chase = Chase(row_web())
        self.assertEqual(look(chase)[:5], (row_web(), None, None, 0, "guard"))
        for place, expected in (("a", ("a", None, 0, "runner")), ("c", ("a", "c", 0, "guard")),
                                ("a", ("a", "c", 1, "runner")), ("c", ("a", "c", 1, "guard")),
                                ("b", ("b", "c", 2, "runner")), ("c", ("b", "c", 2, "guard")),
                                ("c", ("c", "c", 3, "none"))):
            self.assertIs(chase.move(place), None)
            self.assertEqual(look(chase)[1:5], expected)

    def test_what_can_be_moved_to(self):
        for web in [*all_webs(3), *some_webs(6, 10)]:
            for chase in all_stands(web):
                for place in web.places:
                    self.assert_move(chase, place)

    def assert_move(self, chase, place):
        web, guard, runner, turns, who = look(chase)[:5]
        choosing = guard is None or runner is None
        here = guard if who == "guard" else runner
        ahead = chase.fork()
        if who == "none" or not choosing and place not in web.sees(here):
            with self.assertRaises(BadMove) as caught:
                ahead.move(place)
            self.assertIs(caught.exception.value, place)
            self.assertEqual(look(ahead), look(chase))
            return
        ahead.move(place)
        if who == "guard":
            expected = (place, runner, turns + (not choosing), "none" if place == runner else "runner")
        else:
            expected = (guard, place, turns, "none" if place == guard else "guard")
        self.assertEqual(look(ahead)[1:5], expected)

    def test_caught_by_its_own_choice(self):
        chase = chase_with(ring_web(), "b", "b")
        self.assertEqual(look(chase)[1:], ("b", "b", 0, "none", 0, []))
        for place in "abcd":
            with self.assertRaises(BadMove):
                chase.move(place)

    def test_caught_by_its_own_move(self):
        chase = chase_with(row_web(), "a", "c", "b", "b")
        self.assertEqual(look(chase)[1:], ("b", "b", 1, "none", 0, []))

    def test_any_value(self):
        web = ring_web()
        for moves in ((), ("a",), ("a", "c"), ("a", "c", "b"), ("a", "a")):
            chase = chase_with(web, *moves)
            before = look(chase)
            for value in [*any_values(), *no_names(), ["a"], ("a", "c"), Chase(web), NoPlace("a"), b"a", web]:
                with self.assertRaises(BadMove) as caught:
                    chase.move(value)
                self.assertIs(caught.exception.value, value)
                self.assertEqual(look(chase), before)
            with self.assertRaises(TooFar) as caught:
                chase.undo(len(moves) + 1)
            self.assertEqual(caught.exception.count, len(moves))
            chase.undo(len(moves))
            self.assertEqual(chase, Chase(web))

    def test_the_error_is_a_web_error(self):
        with self.assertRaises(WebError):
            Chase(row_web()).move(None)


class Undo(unittest.TestCase):
    def test_each_number(self):
        moves = ["a", "d", "b", "c", "b", "d", "c", "c"]
        row = long_row(4)
        looks_then = [look(chase_with(row, *moves[:done])) for done in range(len(moves) + 1)]
        self.assertEqual(looks_then[-1][1:5], ("c", "c", 3, "none"))
        for number in range(len(moves) + 1):
            chase = chase_with(row, *moves)
            self.assertIs(chase.undo(number), None)
            self.assertEqual(look(chase), looks_then[len(moves) - number])
            for place in moves[len(moves) - number:]:
                chase.move(place)
            self.assertEqual(look(chase), looks_then[-1])

    def test_one_by_one(self):
        chase = chase_with(ring_web(), "a", "c", "b", "d", "b", "d", "c")
        seen = []
        for _ in range(7):
            seen.append((chase.guard, chase.runner, chase.turns, chase.who))
            chase.undo(1)
        self.assertEqual(seen, [("c", "d", 3, "runner"), ("b", "d", 2, "guard"), ("b", "d", 2, "runner"),
                                ("b", "d", 1, "guard"), ("b", "c", 1, "runner"), ("a", "c", 0, "guard"),
                                ("a", None, 0, "runner")])
        self.assertEqual(chase, Chase(ring_web()))

    def test_too_far(self):
        for moves in ((), ("a",), ("b", "b"), ("a", "c", "b"), ("a", "c", "b", "b")):
            for more in (1, 2, 100, 10 ** 59):
                chase = chase_with(row_web(), *moves)
                before = look(chase)
                with self.assertRaises(TooFar) as caught:
                    chase.undo(len(moves) + more)
                self.assertEqual(caught.exception.count, len(moves))
                self.assertEqual(look(chase), before)
                chase.undo(len(moves))
                self.assertEqual(look(chase), look(Chase(row_web())))

    def test_none_to_take_back(self):
        chase = chase_with(row_web(), "a", "c")
        chase.undo(0)
        self.assertEqual(look(chase), look(chase_with(row_web(), "a", "c")))
        fresh = Chase(row_web())
        fresh.undo(0)
        self.assertEqual(fresh, Chase(row_web()))
        with self.assertRaises(TooFar):
            fresh.undo(1)

    def test_failed_moves_are_no_moves(self):
        chase = chase_with(row_web(), "a", "c")
        for wrong in ("c", "q", None):
            with self.assertRaises(BadMove):
                chase.move(wrong)
        chase.undo(1)
        self.assertEqual(look(chase), look(chase_with(row_web(), "a")))
        with self.assertRaises(TooFar) as caught:
            chase.undo(2)
        self.assertEqual(caught.exception.count, 1)

    def test_a_long_play(self):
        chase = chase_with(ring_of(12), "a", "g")
        for _ in range(500):
            chase.move(chase.best()[-1])
            chase.move(chase.best()[0])
        self.assertEqual((chase.turns, chase.who), (500, "guard"))
        chase.undo(1000)
        self.assertEqual(look(chase), look(chase_with(ring_of(12), "a", "g")))
        with self.assertRaises(TooFar) as caught:
            chase.undo(3)
        self.assertEqual(caught.exception.count, 2)


class Fork(unittest.TestCase):
    def test_a_fork_goes_its_own_way(self):
        chase = chase_with(long_row(4), "a", "d", "b")
        fork = chase.fork()
        self.assertIs(fork.__class__, Chase)
        self.assertEqual((fork, look(fork)), (chase, look(chase)))
        before = look(chase)
        fork.move("c")
        self.assertEqual(look(chase), before)
        self.assertNotEqual(fork, chase)
        fork.undo(4)
        self.assertEqual((look(fork), look(chase)), (look(Chase(long_row(4))), before))
        again = chase.fork()
        chase.undo(2)
        self.assertEqual(look(again), before)
        again.undo(2)
        self.assertEqual(look(again), look(chase))

    def test_the_same_moves_to_take_back(self):
        for chase in all_stands(ring_web()):
            fork = chase.fork()
            with self.assertRaises(TooFar) as caught:
                chase.undo(100)
            count = caught.exception.count
            with self.assertRaises(TooFar) as caught:
                fork.undo(100)
            self.assertEqual(caught.exception.count, count)
            for _ in range(count):
                chase.undo(1)
                fork.undo(1)
                self.assertEqual(look(fork), look(chase))


class Equality(unittest.TestCase):
    def test_all_stands(self):
        webs = [row_web(), full_web(3)]
        chases = [chase for web in webs for chase in all_stands(web)]
        shown = [(chase.web, chase.guard, chase.runner, chase.who) for chase in chases]
        for one, first in zip(chases, shown):
            for other, second in zip(chases, shown):
                self.assertIs(one == other, first == second)
                self.assertIs(one != other, first != second)

    def test_turns_and_moves_do_not_count(self):
        one = chase_with(row_web(), "a", "c")
        other = chase_with(row_web(), "b", "c", "b", "c", "a", "c")
        self.assertEqual((one.turns, other.turns), (0, 2))
        self.assertTrue(one == other)
        other.move("a")
        self.assertFalse(one == other)

    def test_equal_webs_in_another_sequence(self):
        web = web_of_parts(4, 2)
        other = renamed(web, web.places, [3, 5, 1, 0, 4, 2])
        self.assertEqual(web, other)
        for guard in web.places:
            for runner in web.places:
                self.assertEqual(chase_with(web, guard, runner), chase_with(other, guard, runner))
        self.assertNotEqual(chase_with(web, "a", "c"), chase_with(other, "c", "a"))
        self.assertNotEqual(Chase(web), Chase(web.without(["e"])))
        self.assertNotEqual(Chase(web), Chase(web.tied([("a", "c")])))

    def test_any_value(self):
        for chase in (Chase(row_web()), chase_with(row_web(), "a", "c"), chase_with(row_web(), "a", "a")):
            for value in [*any_values(), row_web(), "a", ("a", "c"), look(chase), [chase], (chase,), Chase]:
                self.assertIs(chase == value, False)
                self.assertIs(value == chase, False)
                self.assertIs(chase != value, True)
            self.assertIs(chase == chase.fork(), True)


class Calls(unittest.TestCase):
    def test_the_same_call_again_and_new_lists(self):
        for web in (row_web(), ring_web(), long_row(12)):
            for chase in all_stands(web):
                before = look(chase)
                chase.best().append("q")
                chase.best().clear()
                self.assertEqual(look(chase), before)

    def test_the_web_stays(self):
        for web in (row_web(), ring_of(12)):
            before = looks(web)
            chase = chase_with(web, "a", "c")
            chase.move(chase.best()[0])
            chase.undo(2)
            self.assertEqual((looks(web), looks(chase.web)), (before, before))

    def test_two_chases_of_one_web(self):
        web = ring_web()
        one, other = Chase(web), Chase(web)
        one.move("a")
        self.assertEqual((other.guard, other.who), (None, "guard"))
        other.move("b")
        self.assertEqual((one.guard, other.guard), ("a", "b"))

    def test_ranks_are_reckoned_once(self):
        for name in ("rank_rounds", "rank_rows"):
            web = long_row(6)
            with mock.patch.object(games, name, wraps=getattr(games, name)) as reckoned:
                for chase in [*all_stands(web), *all_stands(web)]:
                    look(chase)
                self.assertEqual([rank_of(web, "a", "f"), all_ranks(web)["a", "f"], turns_needed(web)], [5, 5, 3])
                self.assertEqual(reckoned.call_count, 1)

    def test_arguments_by_name(self):
        chase = Chase(web=row_web())
        chase.move(place="a")
        chase.undo(number=1)
        self.assertEqual(chase, Chase(row_web()))

    def test_properties_are_only_read(self):
        chase = chase_with(row_web(), "a", "c")
        for name in ("web", "guard", "runner", "turns", "who"):
            self.assertIsInstance(getattr(Chase, name), property)
            with self.assertRaises(AttributeError):
                setattr(chase, name, None)

    def test_mixed_plays(self):
        mixed = Mixed()
        for web in [*some_webs(8, 15), web_of_parts(4, 4)]:
            rules, ranks = OneGuard(web), all_ranks(web)
            chase, past = Chase(web), []
            for _ in range(60):
                if past and (chase.who == "none" or mixed.below(6) == 0):
                    number = 1 + mixed.below(len(past))
                    chase.undo(number)
                    self.assertEqual(look(chase), past[-number])
                    past = past[:-number]
                else:
                    past.append(look(chase))
                    here = chase.guard if chase.who == "guard" else chase.runner
                    chase.move(mixed.of(web.places if chase.runner is None else web.sees(here)))
                self.assertEqual((chase.left(), chase.best()), answers_by_the_rules(rules, ranks, chase, chase.guard))


if __name__ == "__main__":
    unittest.main()
