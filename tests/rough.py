"""A second company, told in sets of names and copies of everything, from the words of sections 13 and 14."""

import re

DEED_KINDS = {
    "enter": ("text", "whole"), "leave": ("text",), "put": ("text", "text"), "take": ("text", "text"),
    "walk": ("text", "turns"), "obey": ("text", "texts", "texts"), "gather": ("texts", "texts"),
}
PLAY_KINDS = {
    "undo": (), "spent": (), "held_pegs": (), "log": (), "budget": ("limit",), "stand": ("text",),
    "held": ("texts", "tuple"), "trial": ("tuple",), "guarded": ("texts", "tuple"), "keep": (), "paid": (),
}
TESTS = {
    "text": lambda value: type(value) is str,
    "whole": lambda value: type(value) is int,
    "limit": lambda value: value is None or type(value) is int,
    "tuple": lambda value: type(value) is tuple,
    "texts": lambda value: type(value) is tuple and all(type(part) is str for part in value),
    "turns": lambda value: type(value) is tuple and all(
        type(part) is str and re.fullmatch("[+-][a-z]{1,6}", part) for part in value
    ),
}


def has_form(item, kinds):
    if type(item) is not tuple or not item or type(item[0]) is not str or item[0] not in kinds:
        return False
    tests = [TESTS[kind] for kind in kinds[item[0]]]
    return len(item) == len(tests) + 1 and all(test(value) for test, value in zip(tests, item[1:]))


class Refused(Exception):
    """An error of the document: its name and its values, or none for Unmet, where any right triple will do."""

    def __init__(self, *told):
        super().__init__(*told)
        self.told = told


class Rough:
    def __init__(self, model, costs, budget=None):
        self.model, self.costs, self.limit = model, costs, budget
        self.walkers, self.past, self.held, self.floor = [], [], set(), 0

    def saved(self):
        return [list(row) for row in self.walkers], list(self.past), self.limit

    def restore(self, saved):
        self.walkers, self.past, self.limit = [list(row) for row in saved[0]], list(saved[1]), saved[2]

    @property
    def spent(self):
        return sum(cost for _, cost, _ in self.past)

    def log(self):
        return [item for item, _, _ in self.past]

    def told(self):
        """All that can be asked."""
        rows = [(name, self.model.ordered(pegs), load) for name, pegs, load in self.walkers]
        return rows, self.log(), self.spent, self.limit, self.model.ordered(self.held)

    def row(self, name):
        for row in self.walkers:
            if row[0] == name:
                return row
        raise Refused("NoWalker", name)

    def check_pegs(self, pegs):
        for peg in pegs:
            if peg not in self.model.pegs:
                raise Refused("NoPeg", peg)

    def check_held(self, pegs):
        for peg in pegs:
            if peg in self.held:
                raise Refused("Held", peg)

    def turned(self, pegs, sign, peg):
        """The pegs after a turn, with the errors of [22]."""
        model, first = self.model, self.model.ordered(pegs)
        if (sign == "+") == (peg in pegs):
            raise Refused("NoTurn", peg)
        if sign == "-":
            needing = [other for other in first if model.needs(other, peg)]
            if needing:
                raise Refused("Needed", peg, needing[0])
            return set(pegs) - {peg}
        missing = [other for other in model.pegs if model.needs(peg, other) and other not in pegs]
        if missing:
            raise Refused("Missing", peg, missing[0])
        clashing = [other for other in first if model.clash(peg, other)]
        if clashing:
            raise Refused("Barred", peg, clashing[0])
        return set(pegs) | {peg}

    def nearest(self, pegs, inside, outside):
        """The nearest stand that meets a wish, with the errors of [34]."""
        self.check_pegs(sorted(inside) + sorted(outside))
        right = [stand for stand in self.model.stands() if self.model.meets(stand, inside, outside)]
        if not right:
            raise Refused("Unmet")
        return set(min(right, key=lambda stand: self.cost(set(stand) ^ set(pegs))))

    def cost(self, pegs):
        return sum(self.costs[peg] for peg in pegs)

    def changed(self, pairs):
        """The pegs, in board order, in which some pair differs."""
        return self.model.ordered({peg for one, other in pairs for peg in set(one) ^ set(other)})

    def pay(self, cost):
        if self.limit is not None and self.spent + cost > self.limit:
            raise Refused("Spent", cost)
        return cost

    def goals(self, item):
        """The cost of a deed, the walkers after it, and its item in the log; raises its errors in their order."""
        word, after = item[0], [list(row) for row in self.walkers]
        if word == "enter":
            name, load = item[1:]
            if not re.fullmatch("[a-z]{1,6}", name) or name in [row[0] for row in self.walkers]:
                raise Refused("NoDeed", "name")
            if not 1 <= load <= 1000:
                raise Refused("NoDeed", "load")
            if len(self.walkers) == 8:
                raise Refused("NoDeed", "full")
            return 0, after + [[name, set(), load]], item
        if word == "gather":
            return self.gathered(item, after)
        at = self.walkers.index(self.row(item[1]))
        if word == "leave":
            return 0, after[:at] + after[at + 1:], item
        pegs, load = after[at][1:]
        told = item
        if word == "walk":
            goal, cost = self.walked(pegs, item[2])
        elif word == "obey":
            goal = self.nearest(pegs, item[2], item[3])
            cost = self.cost(goal ^ pegs)
            told = ("obey", item[1], *(tuple(sorted(set(side))) for side in item[2:]))
            self.check_held(self.changed([(pegs, goal)]))
        else:
            self.check_pegs(item[2:])
            self.check_held(item[2:])
            goal = self.turned(pegs, {"put": "+", "take": "-"}[word], item[2])
            cost = self.cost(item[2:])
        after[at][1] = goal
        return self.pay(load * cost), after, told

    def walked(self, pegs, texts):
        self.check_pegs([text[1:] for text in texts])
        self.check_held([text[1:] for text in texts])
        for at, text in enumerate(texts):
            try:
                pegs = self.turned(pegs, text[0], text[1:])
            except Refused:
                raise Refused("Stuck", at) from None
        return pegs, self.cost([text[1:] for text in texts])

    def gathered(self, item, after):
        whole = sum(load for _, _, load in self.walkers)
        heavy = {peg for peg in self.model.pegs if 2 * sum(row[2] for row in self.walkers if peg in row[1]) > whole}
        goal = self.nearest(heavy, item[1], item[2])
        self.check_held(self.changed([(row[1], goal) for row in self.walkers]))
        cost = self.pay(sum(load * self.cost(pegs ^ goal) for _, pegs, load in self.walkers))
        told = ("gather", *(tuple(sorted(set(side))) for side in item[1:]))
        return cost, [[name, goal, load] for name, _, load in after], told

    def deed(self, item):
        cost, after, told = self.goals(item)
        self.past.append((told, cost, [list(row) for row in self.walkers]))
        self.walkers = after
        return cost

    def undo(self):
        if len(self.past) == self.floor:
            return False
        before = {name: pegs for name, pegs, _ in self.past[-1][2]}
        now = {name: pegs for name, pegs, _ in self.walkers}
        self.check_held(self.changed([(before[name], now[name]) for name in now if name in before]))
        self.walkers = [list(row) for row in self.past.pop()[2]]
        return True

    def several(self, items, whole=True):
        saved, costs = self.saved(), []
        for at, item in enumerate(items):
            try:
                if not has_form(item, DEED_KINDS):
                    raise Refused("form")
                costs.append(self.deed(item))
            except Refused:
                if whole:
                    self.restore(saved)
                raise Refused("Broken", at) from None
        return sum(costs)

    def assign(self, value):
        if value is not None and value < self.spent:
            raise Refused("NoDeed", "budget")
        self.limit = value

    def play(self, items):
        return self.played(items, None)[0]

    def played(self, items, trial):
        """The answers to items, and whether all of them were right; a trial is a list that keeps what it was told."""
        answers = []
        for at, item in enumerate(items):
            try:
                answers.append(self.answer(item, trial))
            except Refused:
                return tuple(answers) + (("ended", at),), False
        return tuple(answers), True

    def answer(self, item, trial):
        if has_form(item, DEED_KINDS):
            return self.deed(item)
        if not has_form(item, PLAY_KINDS) or (item[0] in ("keep", "paid") and trial is None):
            raise Refused("form")
        word = item[0]
        if word in ("held", "trial", "guarded"):
            return self.block(item, trial)
        if word == "keep":
            return trial.append("keep")
        if word == "paid":
            return self.spent - trial[0]
        simple = {"undo": self.undo, "spent": lambda: self.spent, "log": lambda: tuple(self.log()),
                  "held_pegs": lambda: self.model.ordered(self.held)}
        if word in simple:
            return simple[word]()
        return self.assign(item[1]) if word == "budget" else self.model.ordered(self.row(item[1])[1])

    def block(self, item, trial):
        word, pegs = item[0], item[1] if len(item) == 3 else ()
        self.check_pegs(pegs)
        saved, held, floor = self.saved(), self.held, self.floor
        if word != "held":
            trial, self.floor = [self.spent], len(self.past)
        self.held = held | set(pegs)
        answers, right = self.played(item[-1], trial)
        self.held, self.floor = held, floor
        if word != "held" and not (right and "keep" in trial):
            self.restore(saved)
        return answers
