"""Kettles, moulds and works reckoned with Python's own fractions, hour by hour, to hold the program against."""

from fractions import Fraction

from helpers import juice, pair


class Refused(Exception):
    """The name of a refusal's class, and its what."""

    def __init__(self, name, what):
        Exception.__init__(self, name, what)
        self.told = (name, what)


def need(holds, name, what):
    if not holds:
        raise Refused(name, what)


def is_share(share):
    return 0 < Fraction(*share) <= 1 and share[1] <= 12


def copied(thing):
    """A copy of dicts and lists all through."""
    if isinstance(thing, dict):
        return {key: copied(thing[key]) for key in thing}
    if isinstance(thing, list):
        return [copied(part) for part in thing]
    return thing


class Model:
    """All of a row; each deed goes on a copy of the state, which is kept only where nothing is refused."""

    def __init__(self, kettles, moulds):
        self.kettles = {name: (room, fire, Fraction(*mark)) for name, room, fire, mark in kettles}
        self.moulds = {name: (room, Fraction(*drip)) for name, room, drip in moulds}
        self.state = {
            "hour": 0, "boiled": Fraction(0), "stopped": [], "cured": [], "loaves": [], "strikes": [], "golden": Fraction(0),
            "sugar": {name: Fraction(0) for name in self.kettles}, "water": {name: Fraction(0) for name in self.kettles},
            "held": {name: {} for name in self.moulds}, "wet": {name: Fraction(0) for name in self.moulds},
            "vat": [Fraction(0), Fraction(0)], "came": [Fraction(0), Fraction(0)], "lost": [Fraction(0), Fraction(0)],
        }

    def attempt(self, word, *arguments):
        """("told", answer) or the refusal of a deed, called as the program's methods and deeds are."""
        before = copied(self.state)
        try:
            return ("told", getattr(self, "on_" + word)(*arguments))
        except Refused as refused:
            self.state = before
            return refused.told

    def add(self, kettle, sugar, water):
        state = self.state
        state["sugar"][kettle] += sugar
        state["water"][kettle] += water
        need(state["sugar"][kettle] + state["water"][kettle] <= self.kettles[kettle][0], "NoRoom", kettle)

    def take(self, kettle, part):
        state = self.state
        sugar, water = state["sugar"][kettle] * part, state["water"][kettle] * part
        state["sugar"][kettle] -= sugar
        state["water"][kettle] -= water
        return sugar, water

    def need_kettle(self, kettle):
        need(kettle in self.kettles, "NoKettle", kettle)

    def need_mould(self, mould):
        need(mould in self.moulds, "NoMould", mould)

    def need_filled(self, kettle):
        need(self.state["sugar"][kettle] + self.state["water"][kettle] > 0, "Empty", kettle)

    def held_in(self, mould):
        return sum(self.state["held"][mould].values(), Fraction(0))

    def strength(self, kettle):
        sugar, water = self.state["sugar"][kettle], self.state["water"][kettle]
        return sugar / (sugar + water) if sugar + water else None

    # What is done with kettles.

    def on_boil_on(self, hours):
        state = self.state
        state["hour"] += hours
        for name, (_, fire, mark) in self.kettles.items():
            if name in state["stopped"]:
                continue
            least = state["sugar"][name] / mark - state["sugar"][name]
            for _ in range(hours):
                off = min(fire, max(state["water"][name] - least, 0))
                if not off:
                    break
                state["water"][name] -= off
                state["boiled"] += off

    def on_pour(self, kettle, poured):
        self.need_kettle(kettle)
        self.add(kettle, Fraction(*poured[0]), Fraction(*poured[1]))

    def on_dip(self, kettle, share):
        self.need_kettle(kettle)
        need(is_share(share), "NoShare", share)
        self.need_filled(kettle)
        return juice(*self.take(kettle, Fraction(*share)))

    def on_ladle(self, one, other, share):
        self.need_kettle(one)
        self.need_kettle(other)
        need(one != other, "Same", one)
        need(is_share(share), "NoShare", share)
        self.need_filled(one)
        sugar, water = self.take(one, Fraction(*share))
        self.add(other, sugar, water)
        return juice(sugar, water)

    def on_skim(self, kettle, share, given, other):
        self.need_kettle(kettle)
        self.need_kettle(other)
        need(is_share(share), "NoShare", share)
        need(is_share(given) or given == (0, 1), "NoShare", given)
        self.need_filled(kettle)
        sugar, water = self.take(kettle, Fraction(*share))
        back = Fraction(*given)
        self.add(other, sugar * back, water * back)
        lost = [sugar - sugar * back, water - water * back]
        self.state["lost"] = [self.state["lost"][0] + lost[0], self.state["lost"][1] + lost[1]]
        return (juice(sugar * back, water * back), juice(*lost))

    def on_stop(self, kettle):
        self.need_kettle(kettle)
        need(kettle not in self.state["stopped"], "Stopped", kettle)
        self.state["stopped"].append(kettle)

    def on_start(self, kettle):
        self.need_kettle(kettle)
        need(kettle in self.state["stopped"], "InWork", kettle)
        self.state["stopped"].remove(kettle)

    def ready_at(self, kettle):
        _, fire, mark = self.kettles[kettle]
        sugar, water = self.state["sugar"][kettle], self.state["water"][kettle]
        strength = self.strength(kettle)
        if not sugar:
            return None
        if strength >= mark:
            return pair(self.state["hour"])
        if kettle in self.state["stopped"] or fire == 0:
            return None
        return pair(self.state["hour"] + (water - (sugar / mark - sugar)) / fire)

    def kettles_told(self):
        state = self.state
        each = []
        for name, (_, _, mark) in self.kettles.items():
            held = juice(state["sugar"][name], state["water"][name])
            each.append((held, name not in state["stopped"], self.strength(name) == mark, self.ready_at(name)))
        return (state["hour"], list(self.kettles), each, pair(state["boiled"]))

    # What is done with moulds.

    def on_fill(self, strike, pours):
        state = self.state
        for mould, poured in pours:
            self.need_mould(mould)
            need(mould not in state["cured"], "Cured", mould)
            held = state["held"][mould]
            held[strike] = held.get(strike, Fraction(0)) + Fraction(*poured[0])
            state["wet"][mould] += Fraction(*poured[1])
            need(self.held_in(mould) + state["wet"][mould] <= self.moulds[mould][0], "NoRoom", mould)

    def on_drain(self, mould):
        state = self.state
        self.need_mould(mould)
        need(state["held"][mould], "Empty", mould)
        need(mould not in state["cured"], "Cured", mould)
        drip = self.moulds[mould][1]
        sugar, water = self.held_in(mould) * drip, state["wet"][mould]
        state["held"][mould] = {strike: held - held * drip for strike, held in state["held"][mould].items()}
        state["wet"][mould] = Fraction(0)
        state["vat"] = [state["vat"][0] + sugar, state["vat"][1] + water]
        state["cured"].append(mould)
        return juice(sugar, water)

    def on_knock(self, mould):
        state = self.state
        self.need_mould(mould)
        need(state["held"][mould], "Empty", mould)
        need(mould in state["cured"], "NotCured", mould)
        told = (pair(self.held_in(mould)), self.bears(mould))
        state["golden"] += self.held_in(mould)
        state["held"][mould] = {}
        state["cured"].remove(mould)
        state["loaves"].append((mould,) + told)
        return told

    def on_draw_off(self, share):
        state = self.state
        need(is_share(share), "NoShare", share)
        need(state["vat"] != [0, 0], "Empty", "vat")
        part = Fraction(*share)
        drawn = [state["vat"][0] * part, state["vat"][1] * part]
        state["vat"] = [state["vat"][0] - drawn[0], state["vat"][1] - drawn[1]]
        return juice(*drawn)

    def bears(self, mould):
        whole = self.held_in(mould)
        return tuple((strike, pair(held / whole)) for strike, held in sorted(self.state["held"][mould].items()))

    def moulds_told(self):
        state = self.state
        each = [
            (juice(self.held_in(name), state["wet"][name]), name in state["cured"], self.bears(name)) for name in self.moulds
        ]
        return (list(self.moulds), each, juice(*state["vat"]), list(state["loaves"]))

    # What is done in works.

    def on_do(self, deed):
        return getattr(self, "do_" + deed[0])(*deed[1:])

    def do_juice(self, kettle, sugar, water):
        self.on_pour(kettle, juice(sugar, water))
        self.state["came"] = [self.state["came"][0] + sugar, self.state["came"][1] + water]
        return ("juice",)

    def do_ladle(self, one, other, share):
        return ("ladle", self.on_ladle(one, other, share))

    def do_skim(self, kettle, share, given, other):
        return ("skim",) + self.on_skim(kettle, share, given, other)

    def do_stop(self, kettle):
        self.on_stop(kettle)
        return ("stop",)

    def do_start(self, kettle):
        self.on_start(kettle)
        return ("start",)

    def do_strike(self, kettle, pours):
        state = self.state
        self.need_kettle(kettle)
        for mould, share in pours:
            self.need_mould(mould)
            need(is_share(share), "NoShare", share)
        whole = sum(Fraction(*share) for _, share in pours)
        need(whole <= 1, "NoShare", pair(whole))
        self.need_filled(kettle)
        need(self.strength(kettle) >= self.kettles[kettle][2], "NotReady", self.ready_at(kettle))
        need(self.strength(kettle) == self.kettles[kettle][2], "TooStrong", pair(self.strength(kettle)))
        sugar, water = state["sugar"][kettle], state["water"][kettle]
        filled = tuple((mould, juice(sugar * Fraction(*share), water * Fraction(*share))) for mould, share in pours)
        number = len(state["strikes"]) + 1
        self.on_fill(number, filled)
        self.take(kettle, whole)
        state["strikes"].append((number, state["hour"], kettle, filled))
        return ("strike", number, filled)

    def do_drain(self, mould):
        return ("drain", self.on_drain(mould))

    def do_knock(self, mould):
        return ("knock",) + self.on_knock(mould)

    def do_drips(self, kettle, share):
        self.need_kettle(kettle)
        drawn = self.on_draw_off(share)
        self.on_pour(kettle, drawn)
        return ("drips", drawn)

    def sums(self):
        state = self.state
        sugar = [
            state["came"][0], sum(state["sugar"].values()), sum(self.held_in(name) for name in self.moulds), state["vat"][0],
            state["golden"], state["lost"][0],
        ]
        water = [
            state["came"][1], sum(state["water"].values()), sum(state["wet"].values()), state["vat"][1], state["boiled"],
            state["lost"][1],
        ]
        return (tuple(pair(part) for part in sugar), tuple(pair(part) for part in water))

    def works_told(self):
        return (self.kettles_told(), self.moulds_told(), list(self.state["strikes"]), self.sums())
