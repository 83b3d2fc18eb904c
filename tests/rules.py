"""The document's rules of plays, word by word and slowly: what the tests hold the answers against."""

from itertools import combinations_with_replacement, permutations


class OneGuard:
    """One guard, as points [3] and [4] say it."""

    def __init__(self, web):
        self.web = web
        self.places = list(web.places)
        self.stands = list(web.places)

    def ways(self, stand):
        return self.web.sees(stand)

    def caught(self, stand, place):
        return stand == place

    def steps(self, _, place):
        return self.web.sees(place)


class Team(OneGuard):
    """Two guards, as point [12] says it."""

    def __init__(self, web):
        super().__init__(web)
        self.stands = list(combinations_with_replacement(web.places, 2))
        self._ways = {}

    def ways(self, stand):
        if stand not in self._ways:
            one, other = (self.web.sees(place) for place in stand)
            self._ways[stand] = [post for post in self.stands
                                 if any(first in one and second in other for first, second in permutations(post))]
        return self._ways[stand]

    def caught(self, stand, place):
        return place in stand


class Paced(OneGuard):
    """A guard of a pace against a runner of a speed, as point [14] says it."""

    def __init__(self, web, pace, speed):
        super().__init__(web)
        self._ways = {stand: self._within(stand, pace, None) for stand in self.stands}
        self._steps = {(stand, place): self._within(place, speed, stand) if stand != place else []
                       for stand in self.stands for place in self.places}

    def _within(self, start, most, barred):
        reached = {start}
        for _ in range(most):
            reached |= {place for here in reached for place in self.web.sees(here) if place != barred}
        return [place for place in self.places if place in reached]

    def ways(self, stand):
        return self._ways[stand]

    def steps(self, stand, place):
        return self._steps[stand, place]


def standings_of(rules):
    return [(stand, place) for stand in rules.stands for place in rules.places]


def free_standings(rules):
    """Return the list of the standings in which the runner is not caught."""
    return [(stand, place) for stand, place in standings_of(rules) if not rules.caught(stand, place)]


def ranks_by_the_rules(rules):
    """Return the dict from all standings to their ranks, as point [4] says it."""
    ranks = {standing: 0 for standing in standings_of(rules) if rules.caught(*standing)}
    most = 0
    fresh = True
    while fresh:
        fresh = [(stand, place) for stand, place in standings_of(rules) if (stand, place) not in ranks
                 and any(wins_by(rules, ranks, way, place, most) for way in rules.ways(stand))]
        ranks.update({standing: most + 1 for standing in fresh})
        most += 1
    return {standing: ranks.get(standing) for standing in standings_of(rules)}


def wins_by(rules, ranks, way, place, most):
    """Tell whether behind a move the runner is caught, or each of its moves leads to a rank of at most so many."""
    if rules.caught(way, place):
        return True
    return most > 0 and all((way, step) in ranks and ranks[way, step] <= most for step in rules.steps(way, place))


def starts_by_the_rules(rules, ranks):
    """Return (turns, starts): the least turns from any stand, None if there are none, and the list of the best."""
    found = {}
    for stand in rules.stands:
        row = [ranks[stand, place] for place in rules.places]
        if None not in row:
            found[stand] = max(row)
    turns = min(found.values(), default=None)
    return turns, [stand for stand in found if found[stand] == turns]


def plan_turns_by_the_rules(rules, start, moves):
    """Return the turns of a good plan and None for others, playing it against each way of the runner."""
    known = {}

    def turns_from(stand, place, before):
        if rules.caught(stand, place):
            return 0
        if (stand, place) in before:
            return None
        if (stand, place) not in known:
            known[stand, place] = turns_of_move(stand, place, before | {(stand, place)})
        return known[stand, place]

    def turns_of_move(stand, place, before):
        if (stand, place) not in moves or moves[stand, place] not in rules.ways(stand):
            return None
        way = moves[stand, place]
        if rules.caught(way, place):
            return 1
        behind = [turns_from(way, step, before) for step in rules.steps(way, place)]
        return None if None in behind else 1 + max(behind)

    found = [turns_from(start, place, frozenset()) for place in rules.places]
    return None if None in found else max(found)


def standings_that_come_up(rules, plan):
    """Return the list of the standings, of a runner who is not caught, that come up in a good plan."""
    start, moves = plan
    found, waiting = {}, [(start, place) for place in rules.places]
    while waiting:
        stand, place = waiting.pop()
        if not rules.caught(stand, place) and (stand, place) not in found:
            found[stand, place] = True
            way = moves[stand, place]
            if not rules.caught(way, place):
                waiting += [(way, step) for step in rules.steps(way, place)]
    return list(found)


def is_way_out_by_the_rules(rules, value):
    """Tell whether a dict from standings, the runner not caught, is a way out, as points [8], [13] and [14] say it."""
    for (stand, place), step in value.items():
        if step not in rules.steps(stand, place) or not is_safe(rules, value, stand, step):
            return False
    return all(any(is_safe(rules, value, stand, place) for place in rules.places) for stand in rules.stands)


def is_safe(rules, value, stand, place):
    return all(not rules.caught(way, place) and (way, place) in value for way in rules.ways(stand))


def answers_by_the_rules(rules, ranks, chase, stand):
    """Return (left, best) for a chase whose guards hold a stand, as the interface says it, from all ranks."""
    runner, who = chase.runner, chase.who
    if who == "none":
        return 0, []
    if stand is None:
        turns = {start: most([ranks[start, place] for place in rules.places]) for start in rules.stands}
    elif runner is None:
        turns = {place: ranks[stand, place] for place in rules.places}
    elif who == "runner":
        turns = {place: ranks[stand, place] for place in rules.steps(stand, runner)}
    else:
        turns = {way: turns_by_move(rules, ranks, way, runner) for way in rules.ways(stand)}
    left = most(list(turns.values())) if who == "runner" else least(list(turns.values()))
    return left, [choice for choice in turns if turns[choice] == left]


def turns_by_move(rules, ranks, way, runner):
    """Return the turns that the guards need with a move, that move's turn counted, None for ever."""
    if rules.caught(way, runner):
        return 1
    further = most([ranks[way, step] for step in rules.steps(way, runner)])
    return None if further is None else further + 1


def most(turns):
    return None if None in turns else max(turns)


def least(turns):
    return min([many for many in turns if many is not None], default=None)
