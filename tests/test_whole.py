"""Tests of what point [1] promises over the whole program: of all functions, methods and properties at once."""

import copy
import unittest
from importlib import import_module
from inspect import signature

from cornerturn.chases import Chase
from cornerturn.errors import WebError
from cornerturn.outs import way_out
from cornerturn.paces import pace_plan, pace_way_out
from cornerturn.plans import a_plan
from cornerturn.ranks import all_ranks
from cornerturn.runners import a_runner
from cornerturn.teamchases import TeamChase
from cornerturn.teams import team_plan, team_way_out
from cornerturn.unseen import a_refuge
from cornerturn.webs import Web
from samples import any_values, long_row, looks, ring_web, row_web, web_of_parts

PIECE = ("times", ("row", 3), ("full", 2))


def calls():
    """Return the list of (module, function, names of its arguments, some arguments) for all functions."""
    row, ring, apart = row_web(), ring_web(), web_of_parts(2, 1, 1)
    return [
        ("ranks", "rank_of", "web guard runner", (row, "a", "c")), ("ranks", "all_ranks", "web", (ring,)),
        ("ranks", "is_ranks", "web value", (row, all_ranks(row))), ("ranks", "turns_needed", "web", (row,)),
        ("ranks", "best_starts", "web", (row,)), ("orders", "overlookers", "web place", (row, "a")),
        ("orders", "an_order", "web", (row,)), ("orders", "is_order", "web value", (row, [("a", "b"), ("b", "c")])),
        ("orders", "a_core", "web", (ring,)), ("orders", "is_core", "web value", (row, ["c"])),
        ("likeness", "a_mapping", "first second", (ring, ring_web())),
        ("likeness", "is_mapping", "first second value", (row, row, {"a": "c", "b": "b", "c": "a"})),
        ("likeness", "same_core", "first second", (row, Web(["x"]))), ("plans", "a_plan", "web", (row,)),
        ("plans", "plan_turns", "web value", (row, a_plan(row))), ("outs", "way_out", "web", (ring,)),
        ("outs", "is_way_out", "web value", (ring, way_out(ring))), ("runners", "a_runner", "web", (ring,)),
        ("runners", "lasts", "web value", (row, a_runner(row))), ("several", "turns_with", "web many", (ring, 2)),
        ("several", "fewest", "web", (ring,)), ("mending", "ties_to_add", "web", (ring,)),
        ("mending", "places_to_shut", "web", (ring,)), ("pieces", "is_piece", "value", (PIECE,)),
        ("pieces", "places_of", "piece", (PIECE,)), ("pieces", "ties_of", "piece", (PIECE,)),
        ("pieces", "enough", "piece", (PIECE,)), ("pieces", "turns_of", "piece", (PIECE,)),
        ("pieces", "web_of", "piece", (PIECE,)), ("texts", "web_text", "web", (row,)),
        ("texts", "read_web", "text", ("place a\nplace b\ntie b a",)), ("teams", "posts", "web", (row,)),
        ("teams", "seen_posts", "web post", (row, ("a", "b"))),
        ("teams", "team_rank", "web post runner", (ring, ("a", "a"), "c")), ("teams", "team_ranks", "web", (ring,)),
        ("teams", "team_starts", "web", (ring,)), ("teams", "team_plan", "web", (ring,)),
        ("teams", "team_plan_turns", "web value", (ring, team_plan(ring))),
        ("teams", "team_way_out", "web", (apart,)),
        ("teams", "is_team_way_out", "web value", (apart, team_way_out(apart))),
        ("paces", "reach", "web place pace", (row, "a", 2)),
        ("paces", "runs", "web guard runner speed", (ring, "a", "c", 2)),
        ("paces", "pace_rank", "web guard runner pace speed", (ring, "a", "c", 2, 1)),
        ("paces", "pace_turns", "web pace speed", (ring, 2, 12)), ("paces", "least_pace", "web speed", (ring, 1)),
        ("paces", "pace_plan", "web pace speed", (ring, 2, 1)),
        ("paces", "pace_plan_turns", "web pace speed value", (ring, 2, 1, pace_plan(ring, 2, 1))),
        ("paces", "pace_way_out", "web pace speed", (ring, 1, 2)),
        ("paces", "is_pace_way_out", "web pace speed value", (ring, 1, 2, pace_way_out(ring, 1, 2))),
        ("unseen", "lots", "web walk", (row, ["a", "b", "c"])),
        ("unseen", "catches", "web value", (row, ["a", "b", "c"])),
        ("unseen", "walk_turns", "web", (row,)), ("unseen", "a_walk", "web", (row,)),
        ("unseen", "a_refuge", "web", (ring,)), ("unseen", "is_refuge", "web value", (ring, a_refuge(ring))),
    ]


def methods():
    """Return the list of (object, method, names of its arguments, some arguments) for all that change no object."""
    row, chase, hunt = row_web(), Chase(ring_web()), TeamChase(ring_web())
    chase.move("a")
    hunt.move(("a", "b"))
    return [
        (row, "sees", "place", ("a",)), (row, "parts", "", ()), (row, "without", "places", (["b"],)),
        (row, "tied", "ties", ([("a", "c")],)), (chase, "left", "", ()), (chase, "best", "", ()),
        (chase, "fork", "", ()), (hunt, "left", "", ()), (hunt, "best", "", ()), (hunt, "fork", "", ()),
    ]


def all_calls():
    """Return the list of (what is called, names of its arguments, some arguments)."""
    found = [(getattr(import_module(f"cornerturn.{module}"), name), names.split(), arguments)
             for module, name, names, arguments in calls()]
    return found + [(getattr(thing, name), names.split(), arguments) for thing, name, names, arguments in methods()]


def emptied(value):
    """Take everything out of all lists and dicts within a value."""
    if isinstance(value, dict):
        for other in [*value, *value.values()]:
            emptied(other)
        value.clear()
    elif isinstance(value, (list, tuple)):
        for other in value:
            emptied(other)
        if isinstance(value, list):
            value.clear()


def shown(value):
    """Return a value with what can be seen of the webs and chases in it."""
    if isinstance(value, Web):
        return looks(value)
    if isinstance(value, (Chase, TeamChase)):
        where = value.guard if isinstance(value, Chase) else value.post
        return looks(value.web), where, value.runner, value.turns, value.who, value.left(), value.best()
    if isinstance(value, (list, tuple)):
        return value.__class__(shown(other) for other in value)
    return copy.deepcopy(value)


class Whole(unittest.TestCase):
    def test_names_of_arguments(self):
        for function, names, _ in all_calls():
            self.assertEqual(list(signature(function).parameters), names)
        for made in (Chase, TeamChase):
            self.assertEqual(list(signature(made).parameters), ["web"])
            self.assertEqual(list(signature(made.undo).parameters), ["self", "number"])
        self.assertEqual(list(signature(Chase.move).parameters), ["self", "place"])
        self.assertEqual(list(signature(TeamChase.move).parameters), ["self", "value"])
        self.assertEqual(str(signature(Web)), "(places, ties=())")

    def test_calls_by_name(self):
        for function, names, arguments in all_calls():
            by_name = dict(reversed(list(zip(names, arguments))))
            self.assertEqual(shown(function(**by_name)), shown(function(*arguments)), function)

    def test_the_same_call_again(self):
        for function, _, arguments in all_calls():
            before, found = shown(arguments), shown(function(*arguments))
            emptied(function(*arguments))
            self.assertEqual(shown(function(*arguments)), found, function)
            self.assertEqual(shown(arguments), before, function)

    def test_other_calls_between(self):
        everything = all_calls()
        found = [shown(function(*arguments)) for function, _, arguments in everything]
        for at in reversed(range(len(everything))):
            function, _, arguments = everything[at]
            self.assertEqual(shown(function(*arguments)), found[at], function)

    def test_properties_are_new_and_the_same(self):
        row, chase, hunt = row_web(), Chase(ring_web()), TeamChase(ring_web())
        for thing, names in ((row, ("places", "ties")), (chase, ("web", "guard", "runner", "turns", "who")),
                             (hunt, ("web", "post", "runner", "turns", "who"))):
            for name in names:
                self.assertEqual(getattr(thing, name), getattr(thing, name))

    def test_any_value_is_judged(self):
        judges = [(function, arguments[:-1]) for function, names, arguments in all_calls()
                  if names[-1:] == ["value"] and function.__name__ != "lasts"]
        self.assertEqual(len(judges), 13)
        for function, arguments in judges:
            expected = None if function.__name__.endswith("turns") else False
            for value in any_values():
                self.assertIs(function(*arguments, value), expected, function)

    def test_calls_that_raise_change_nothing(self):
        looked_at = ("guard", "runner", "place", "post", "pace", "speed", "walk", "piece", "text", "places", "ties")
        for function, names, arguments in all_calls():
            for at, name in enumerate(names):
                if name in looked_at:
                    for wrong in any_values():
                        before, old = shown(arguments), repr(wrong)
                        self.assert_raises_or_answers(function, [*arguments[:at], wrong, *arguments[at + 1:]], wrong)
                        self.assertEqual((shown(arguments), repr(wrong)), (before, old))

    def assert_raises_or_answers(self, function, arguments, wrong):
        try:
            function(*arguments)
        except WebError as error:
            (kept,) = vars(error).values()
            self.assertTrue(kept is wrong or kept.__class__ is int, function)

    def test_a_web_that_is_asked_of_everything_stays_equal(self):
        for web in (row_web(), ring_web(), long_row(5), web_of_parts(2, 1, 1)):
            before, other = looks(web), Web(web.places, web.ties)
            for module, name, names, arguments in calls():
                if names == "web":
                    getattr(import_module(f"cornerturn.{module}"), name)(web)
            self.assertEqual((looks(web), web), (before, other))
            self.assertEqual(all_ranks(web), all_ranks(other))


if __name__ == "__main__":
    unittest.main()
