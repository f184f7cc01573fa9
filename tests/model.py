"""The document read a second time, written by other means than the package: dicts, fractions, one flat state.

The tests hold the package against it on long lists of calls, where numbers can't be worked out by hand.
"""

import copy
from fractions import Fraction
from math import floor

PARTS = ("volume", "p", "q", "r", "heat")

SPANS = {
    0: lambda a: [(2, 32), (0, a[0] - 1), (a[0] - a[1], 1000), (1000, 1000000)],
    1: lambda a: [(0, a[1]), (1, 1000000), (0, a[3]), (1, 1000000)],
    2: lambda a: [(0, 1), (0, 10000000)] + [(0, 10000)] * 3,
    3: lambda a: [(0, 5000)],
    4: lambda a: [(0, 1000000), (a[0], 1000000), (0, 10000), (a[2], 10000)],
    5: lambda a: [(0, 1000000), (0, 1000), (0, 1000), (0, 1000000000)],
    6: lambda a: [(0, 10000), (0, 1000), (0, 10000000), (0, 3000)],
    7: lambda a: [(0, 1000000), (0, 10000)],
    8: lambda a: [(1, 200)],
    9: lambda a: [(0, 3), (0, 2), (-1000000, 1000000)],
    10: lambda a: [(0, 1)],
    13: lambda a: [(0, 31)],
    15: lambda a: [(0, 1)],
    17: lambda a: [(1, 200)],
}
COUNTS = {0: 4, 1: 4, 2: 5, 3: 1, 4: 4, 5: 4, 6: 4, 7: 2, 8: 1, 9: 3, 10: 1, 13: 1, 15: 1, 17: 1}
WITHOUT = (11, 12, 14, 16, 18)


def mix(*numbers):
    return dict(zip(PARTS, numbers or (0,) * 5))


def add(*mixes):
    return {part: sum(m[part] for m in mixes) for part in PARTS}


def per_volume(amount, m):
    return floor(Fraction(amount, m["volume"])) if m["volume"] else 0


def conductivity(m):
    return per_volume(19 * m["p"] + 18 * m["q"] + 10 * m["r"], m)


def temperature(m):
    return per_volume(m["heat"], m)


def seven(m):
    return [m[part] for part in PARTS] + [conductivity(m), temperature(m)]


class Model:
    def __init__(self):
        self.s = {
            "n": 0, "c": 0, "k": 0, "pn": 0, "pd": 1, "qn": 0, "qd": 1, "F": 0, "lo": 0, "hi": 0, "tlo": 0, "thi": 0,
            "target": 0, "kp": 0, "ki": 0, "im": 0, "set": 0, "band": 0, "power": 0, "inlet": 0, "d": 0, "td": 0,
            "chamber": mix(), "cells": {}, "ga": 0, "gb": 0, "heater": False,
            "A": [0, 0, 0, 0], "B": [0, 0, 0, 0], "faults": {}, "good": 0, "bypass": True, "held": False,
            "uc": 0, "ut": 0, "lc": False, "lt": False, "sum": 0, "trim": 0,
            "in": mix(), "dialyser": mix(), "drain": mix(), "thrown": mix(), "ticks": 0, "hung": 0, "laid": 0,
        }

    def call(self, numbers):
        place, args = numbers[0], list(numbers[1:])
        if place not in COUNTS and place not in WITHOUT:
            return [-100]
        if len(args) != COUNTS.get(place, 0):
            return [-100]
        if place in SPANS:
            for x, (low, high) in zip(args, SPANS[place](args)):
                if not low <= x <= high:
                    return [-1]
        if place != 0 and not self.s["laid"]:
            return [-2]
        return getattr(self, f"call{place}")(*args)

    def tell(self, names, values):
        for name, value in zip(names.split(), values):
            self.s[name] = value
        return [0]

    def call0(self, n, c, k, v):
        s = self.s
        if s["laid"] == 50:
            return [-3]
        s["thrown"] = add(s["thrown"], s["chamber"], *s["cells"].values())
        s["chamber"] = mix(v, 0, 0, 0, 2000 * v)
        s["cells"] = {i: mix(1000, 0, 0, 0, 2000000) for i in range(n)}
        s["in"] = add(s["in"], s["chamber"], *s["cells"].values())
        s.update(n=n, c=c, k=k, ga=0, gb=0, good=0, uc=0, ut=0, sum=0, trim=0, bypass=True, lc=False, lt=False)
        s.update(heater=False, laid=s["laid"] + 1)
        return [0]

    def call1(self, pn, pd, qn, qd):
        if Fraction(13, 10) * Fraction(pn, pd) + Fraction(qn, qd) > 1:
            return [-3]
        return self.tell("pn pd qn qd ga gb", (pn, pd, qn, qd, 0, 0))

    def call2(self, which, v, p, q, r):
        if self.s["hung"] == 100:
            return [-3]
        old = self.s["AB"[which]][0]
        self.s["AB"[which]] = [v, p, q, r]
        self.s["hung"] += 1
        return [old]

    def call3(self, f):
        return self.tell("F", (f,))

    def call4(self, lo, hi, tlo, thi):
        return self.tell("lo hi tlo thi good bypass", (lo, hi, tlo, thi, 0, True))

    def call5(self, target, kp, ki, im):
        return self.tell("target kp ki im sum trim", (target, kp, ki, im, 0, 0))

    def call6(self, setpoint, band, power, inlet):
        return self.tell("set band power inlet heater", (setpoint, band, power, inlet, False))

    def call7(self, d, td):
        return self.tell("d td", (d, td))

    def call8(self, m):
        if self.s["ticks"] + m > 20000:
            return [-3]
        return self.ticks(m)

    def call9(self, channel, mode, v):
        if mode == 0:
            self.s["faults"].pop(channel, None)
        else:
            self.s["faults"][channel] = ("stuck", v) if mode == 1 else ("off", v)
        return [0]

    def call10(self, x):
        self.s["held"] = x == 1
        if x == 1:
            self.s["bypass"] = True
        return [0]

    def call11(self):
        faulty = sum(2 ** channel for channel in self.s["faults"])
        if not self.s["faults"]:
            self.s.update(uc=0, ut=0, lc=False, lt=False)
        return [faulty]

    def valve(self):
        return [int(self.s[name]) for name in ("bypass", "good", "held", "lc", "lt")]

    def call12(self):
        return self.valve() + [int(self.s[name]) for name in ("uc", "ut", "heater", "ga", "gb", "sum", "trim")]

    def call13(self, i):
        return seven(self.s["cells"][i]) if i in self.s["cells"] else [-3]

    def call14(self):
        return seven(self.s["chamber"])

    def call15(self, which):
        return list(self.s["AB"[which]])

    def call16(self):
        return [self.s[name][part] for name in ("in", "dialyser", "drain", "thrown") for part in PARTS]

    def call17(self, m):
        other = Model()
        other.s = copy.deepcopy(self.s)
        return other.ticks(m)

    def call18(self):
        return [self.s[name] for name in ("ticks", "hung", "laid")]

    def ticks(self, m):
        gone = []
        for i in range(m):
            self.s["ticks"] += 1
            if self.s["F"] != 0:
                self.one_tick(gone)
        return self.valve() + [len(gone)] + [f(x) for x in gone for f in (conductivity, temperature)]

    def one_tick(self, gone):
        s = self.s
        F = s["F"]
        # 1
        s["ga"] += F * s["pn"] * (1000 + s["trim"])
        a = min(floor(Fraction(s["ga"], s["pd"] * 1000)), F)
        s["ga"] -= a * s["pd"] * 1000
        s["gb"] += F * s["qn"]
        b = min(floor(Fraction(s["gb"], s["qd"])), F - a)
        s["gb"] -= b * s["qd"]
        # 2
        a = a if s["A"][0] >= a else s["A"][0]
        b = b if s["B"][0] >= b else s["B"][0]
        # 3
        coming = [mix(F - a - b, 0, 0, 0, (F - a - b) * s["inlet"])]
        for name, v in (("A", a), ("B", b)):
            coming.append(mix(v, *[v * strength for strength in s[name][1:]], v * 2000))
            s[name][0] -= v
        if s["heater"]:
            coming.append(mix(0, 0, 0, 0, s["power"]))
        s["in"] = add(s["in"], *coming)
        whole = add(s["chamber"], *coming)
        # 4
        share = Fraction(F, whole["volume"])
        leaves = {part: floor(whole[part] * share) for part in PARTS}
        s["chamber"] = {part: whole[part] - leaves[part] for part in PARTS}
        # 5
        n = s["n"]
        end = s["cells"][n - 1]
        if s["bypass"]:
            s["drain"] = add(s["drain"], end)
        else:
            s["dialyser"] = add(s["dialyser"], end)
            gone.append(end)
        s["cells"] = {i: leaves if i == 0 else s["cells"][i - 1] for i in range(n)}
        self.guard(s["cells"][s["c"]])

    def guard(self, there):
        s = self.s
        # 6
        read = {}
        for channel in range(4):
            truth = conductivity(there) if channel < 2 else temperature(there)
            kind, v = s["faults"].get(channel, ("off", 0))
            read[channel] = v if kind == "stuck" else truth + v
        good = all(s["lo"] <= read[i] <= s["hi"] for i in (0, 1)) and all(s["tlo"] <= read[i] <= s["thi"] for i in (2, 3))
        # 7
        for one, other, limit, unlike, latch in ((0, 1, "d", "uc", "lc"), (2, 3, "td", "ut", "lt")):
            distant = max(read[one], read[other]) - min(read[one], read[other]) > s[limit]
            s[unlike] = (1 if s[unlike] == 0 else 2) if distant else 0
            s[latch] = s[latch] or s[unlike] == 2
        # 8
        s["good"] = 0 if not good else s["k"] if s["good"] >= s["k"] else s["good"] + 1
        # 9
        if not good or s["lc"] or s["lt"]:
            s["bypass"] = True
        elif s["good"] == s["k"] and not s["held"]:
            s["bypass"] = False
        # 10
        e = s["target"] - read[0]
        s["sum"] = sorted((-s["im"], s["sum"] + e, s["im"]))[1]
        s["trim"] = sorted((-300, floor(Fraction(s["kp"] * e + s["ki"] * s["sum"], 1000)), 300))[1]
        # 11
        if read[2] < s["set"] - s["band"]:
            s["heater"] = True
        elif read[2] > s["set"] + s["band"]:
            s["heater"] = False


def modelled(calls):
    """What each of these calls answers."""
    model = Model()
    return [model.call(call) for call in calls]
