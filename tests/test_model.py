"""Calls made up at random (from written seeds), answered as a second, slow reading of the document answers them.

The model reads areas by Python's own parser, works on sets of cells, and knows a text's faults by a table of what may
stand where: it has nothing in common with the program but the document.
"""

import random
import re
import unittest

from helper import (
    apart, area, attempt, being, bound, cast, check, cost, ground, level, open_level, print_form, run, tidy, undo, who,
)

GROUNDS = ("wall", "floor", "water", "ice", "fire")
UNSIZED = ("self", "target", "line", "bolt", "all", "beings", "foes", "friends") + GROUNDS
SIZED = ("ball", "ring", "burst")
ACT_RANGES = {"hurt": range(1, 100), "heal": range(1, 100), "push": range(1, 6), "pull": range(1, 6)}
TOKEN = re.compile(rb"[ \t\n\r]+|[a-z]+|[0-9]+|[;|&()]|[\x00-\xff]", re.DOTALL)


def tokens(text):
    """(place, token) for each token; a wrong token is None, and the end is the empty str."""
    found = []
    for match in TOKEN.finditer(text):
        piece = match.group()
        if not piece.strip(b" \t\n\r"):
            continue
        sound = re.fullmatch(rb"[a-z]+|[0-9]{1,3}|[;|&()]", piece)
        found.append((match.start(), piece.decode() if sound else None))
    return found + [(len(text), "")]


class Automaton:
    """Takes tokens one by one; `wanted` says what may stand next."""

    def __init__(self, whole):
        self.whole = whole
        self.wanted = "act" if whole == "spell" else "unit"
        self.is_when = False
        self.open_levels = []
        self.numbers = None

    def fault_of(self, token):
        """The fault of the next token, or 0."""
        if token is None:
            return 1
        return getattr(self, "want_" + self.wanted)(token)

    def want_act(self, token):
        if token in ACT_RANGES:
            self.wanted, self.numbers, self.behind = "number", ACT_RANGES[token], "on"
        elif token in ("set", "blink"):
            self.wanted = "ground" if token == "set" else "on"
        else:
            return 2
        return 0

    def want_ground(self, token):
        self.wanted = "on"
        return 0 if token in GROUNDS else 2

    def want_number(self, token):
        if not token.isdigit():
            return 2
        if int(token) not in self.numbers:
            return 3
        self.wanted = self.behind
        if self.wanted == "join":
            self.end_unit()
        return 0

    def want_on(self, token):
        self.wanted, self.is_when = "unit", False
        return 0 if token == "on" else 2

    def want_unit(self, token):
        if token in ("not", "grow", "("):
            if len(self.open_levels) == 12:
                return 6
            self.open_levels.append(token)
        elif token in SIZED:
            self.wanted, self.numbers, self.behind = "number", range(10), "join"
        elif token in UNSIZED:
            self.wanted = "join"
            self.end_unit()
        else:
            return 2
        return 0

    def end_unit(self):
        while self.open_levels and self.open_levels[-1] != "(":
            self.open_levels.pop()

    def want_join(self, token):
        if token in ("|", "&"):
            self.wanted = "unit"
        elif token == ")" and self.open_levels:
            self.open_levels.pop()
            self.end_unit()
        elif self.open_levels:
            return 2
        elif token == "":
            self.wanted = "nothing"
        elif self.whole == "spell" and token == ";":
            self.wanted = "act"
        elif self.whole == "spell" and token == "when" and not self.is_when:
            self.wanted, self.is_when = "unit", True
        else:
            return 2
        return 0


def first_fault(text, whole):
    automaton = Automaton(whole)
    for place, token in tokens(text):
        number = automaton.fault_of(token)
        if number:
            return number, place
    return 0, 0


class Tree:
    def __init__(self, *parts):
        self.parts = parts

    def __and__(self, other):
        return Tree("&", self.parts, other.parts)

    def __or__(self, other):
        return Tree("|", self.parts, other.parts)

    def __invert__(self):
        return Tree("not", self.parts)

    def __pos__(self):
        return Tree("grow", self.parts)


def tree_of(words):
    """The area's tree, from its tokens, none of which is at fault."""
    written = []
    for word in words:
        if word.isdigit():
            written[-1] = written[-1].replace("0)", "%d)" % int(word))
        elif word.isalpha() and word not in ("not", "grow"):
            written.append("Tree('%s', 0)" % word)
        else:
            written.append({"not": "~", "grow": "+"}.get(word, word))
    return eval("".join(written), {"Tree": Tree}).parts


def steps_of(text):
    """(act, number or ground, area's tree, "when" area's tree or None) of each step."""
    words = [token for place, token in tokens(text)][:-1]
    steps = []
    while words:
        end = words.index(";") if ";" in words else len(words)
        step, words = words[:end], words[end + 1:]
        head, tail = step[:step.index("on")], step[step.index("on") + 1:]
        when = None
        if "when" in tail:
            when = tree_of(tail[tail.index("when") + 1:])
            tail = tail[:tail.index("when")]
        amount = (head + [""])[1]
        steps.append((head[0], int(amount) if amount.isdigit() else amount, tree_of(tail), when))
    return steps


def bound_of(tree, w, h):
    word, parts = tree[0], tree[1:]
    if word in ("self", "target"):
        return 1
    if word in ("line", "bolt"):
        return min(w + h, w * h)
    if word in ("ball", "burst") or (word, *parts) == ("ring", 0):
        return min(w, 2 * parts[0] + 1) * min(h, 2 * parts[0] + 1)
    if word == "ring":
        return min(8 * parts[0], w * h)
    if word in ("beings", "foes", "friends"):
        return min(8, w * h)
    if word == "grow":
        return min(9 * bound_of(parts[0], w, h), w * h)
    if word == "&":
        return min(bound_of(parts[0], w, h), bound_of(parts[1], w, h))
    if word == "|":
        return min(bound_of(parts[0], w, h) + bound_of(parts[1], w, h), w * h)
    return w * h


def cost_of(steps, w, h):
    total = 0
    for act, amount, tree, when in steps:
        if act == "blink":
            total += 5
        else:
            total += {"hurt": amount, "set": 3}.get(act, 2 * amount if act != "set" else 0) * bound_of(tree, w, h)
        total += when is not None
    return total


def words_in(tree):
    if tree is None:
        return set()
    return {tree[0]}.union(*(words_in(part) for part in tree[1:] if isinstance(part, tuple)))


def apart_of(steps):
    told = []
    for k, first in enumerate(steps):
        for second in steps[k + 1:]:
            told.append(int(may_be_exchanged(first, second)))
    return told


def may_be_exchanged(first, second):
    traits = []
    for act, amount, tree, when in (first, second):
        words = words_in(tree) | words_in(when)
        moves, sets = act in ("push", "pull", "blink"), act == "set"
        places = bool(words & {"self", "line", "bolt", "beings", "foes", "friends"}) or not sets or amount == "wall"
        on_ground = bool(words & {"bolt", "burst", "wall", "floor", "water", "ice", "fire"}) or moves
        traits.append((moves, sets, places, on_ground))
    for one, other in (traits, traits[::-1]):
        if one[0] and other[2] or one[1] and other[3]:
            return False
    return not (traits[0][1] and traits[1][1]) or first[1] == second[1]


def simpler(tree):
    everything = ("all", 0)
    if tree[0] == "not":
        inner = simpler(tree[1])
        return inner[1] if inner[0] == "not" else ("not", inner)
    if tree[0] == "grow":
        inner = simpler(tree[1])
        return everything if inner == everything else ("grow", inner)
    if tree[0] not in ("&", "|"):
        return tree
    a, b = simpler(tree[1]), simpler(tree[2])
    if tree[0] == "&":
        if a == everything or a == b:
            return b
        if b == everything:
            return a
        return a if b[0] == "|" and a in b[1:] else ("&", a, b)
    if everything in (a, b):
        return everything
    if a == b:
        return a
    return a if b[0] == "&" and a in b[1:] else ("|", a, b)


def simpler_steps(steps):
    return [(act, amount, simpler(tree), when and simpler(when)) for act, amount, tree, when in steps]


def far(a, b):
    return max(abs(a[0] - b[0]), abs(a[1] - b[1]))


class Model:
    def __init__(self):
        self.ground = None
        self.past = []

    def cells(self, tree, caster, target):
        word, parts = tree[0], tree[1:]
        every = set(self.ground)
        a, b = caster["cell"], target
        if word in ("&", "|"):
            left, right = (self.cells(part, caster, target) for part in parts)
            return left & right if word == "&" else left | right
        if word in ("not", "grow"):
            inner = self.cells(parts[0], caster, target)
            return every - inner if word == "not" else {c for c in every if any(far(c, d) <= 1 for d in inner)}
        if word == "burst":
            burst = {b}
            for turn in range(parts[0]):
                burst |= {c for c in every if self.ground[c] != "wall" and any(far(c, d) <= 1 for d in burst)}
            return burst
        if word in ("line", "bolt"):
            dx, dy = b[0] - a[0], b[1] - a[1]
            line = {
                c for c in every - {a}
                if c[0] in range(min(a[0], b[0]), max(a[0], b[0]) + 1) and c[1] in range(min(a[1], b[1]), max(a[1], b[1]) + 1)
                and 2 * abs(dx * (c[1] - a[1]) - dy * (c[0] - a[0])) < abs(dx) + abs(dy)
            }
            number = {c: dx * (c[0] - a[0]) + dy * (c[1] - a[1]) for c in line}
            walls = {c for c in line if self.ground[c] == "wall"}
            return line if word == "line" else {c for c in line if all(number[wall] > number[c] for wall in walls)}
        simple = {
            "self": lambda c: c == a, "target": lambda c: c == b, "all": lambda c: True,
            "ball": lambda c: far(c, b) <= parts[0], "ring": lambda c: far(c, b) == parts[0],
            "beings": lambda c: self.at(c), "foes": lambda c: self.at(c) and self.at(c)["side"] != caster["side"],
            "friends": lambda c: self.at(c) and self.at(c)["side"] == caster["side"],
        }
        return {c for c in every if simple.get(word, lambda c: self.ground[c] == word)(c)}

    def at(self, cell):
        return next((each for each in self.beings.values() if each["cell"] == cell), None)

    def is_free(self, cell):
        return self.ground.get(cell, "wall") != "wall" and not self.at(cell)

    def open(self, w, h, ground):
        if not (2 <= w <= 12 and 2 <= h <= 12 and len(ground) == w * h and set(ground) <= set(range(5))):
            return [-1]
        self.w, self.h = w, h
        self.ground = {(k % w, k // w): GROUNDS[kind] for k, kind in enumerate(ground)}
        self.beings, self.following, self.past = {}, 1, []
        return [0]

    def being(self, x, y, life, most, mana, side):
        if not (x in range(12) and y in range(12) and 1 <= life <= most <= 1000 and 0 <= mana <= 10 ** 6 and side in range(4)):
            return [-1]
        if self.ground is None:
            return [-2]
        if (x, y) not in self.ground:
            return [-3]
        if not self.is_free((x, y)):
            return [-4]
        if len(self.beings) >= 8:
            return [-5]
        self.beings[self.following] = {"cell": (x, y), "life": life, "most": most, "mana": mana, "side": side}
        self.following += 1
        self.past = []
        return [0, self.following - 1]

    def aimed(self, number, x, y, text, whole):
        if not (1 <= number <= 1000 and x in range(12) and y in range(12)):
            return -1
        if self.ground is None:
            return -2
        if number not in self.beings or (x, y) not in self.ground:
            return -3
        return -4 if first_fault(text, whole)[0] else 0

    def area(self, number, x, y, text):
        refusal = self.aimed(number, x, y, text, "area")
        if refusal:
            return [refusal]
        found = self.cells(tree_of([token for place, token in tokens(text)][:-1]), self.beings[number], (x, y))
        told = [part for c in sorted(found, key=lambda c: (c[1], c[0])) for part in c]
        return [0, len(told)] + told

    def cast(self, number, x, y, text, kept=True):
        refusal = self.aimed(number, x, y, text, "spell")
        if refusal:
            return [refusal]
        steps = steps_of(text)
        price = cost_of(steps, self.w, self.h)
        if self.beings[number]["mana"] < price:
            return [-6]
        ground, beings = dict(self.ground), {each: dict(one) for each, one in self.beings.items()}
        caster = self.beings[number]
        caster["mana"] -= price
        for step in steps:
            if step[3] is None or self.cells(step[3], caster, (x, y)):
                self.do(step, caster, (x, y))
        self.beings = {each: one for each, one in self.beings.items() if one["life"] > 0}
        changed, gone = [], [each for each in beings if each not in self.beings]
        for each, one in self.beings.items():
            one["life"] = min(one["life"], one["most"])
            if (one["cell"], one["life"]) != (beings[each]["cell"], beings[each]["life"]):
                changed += [each, *one["cell"], one["life"]]
        cells = sum(self.ground[c] != ground[c] for c in ground)
        if kept:
            self.past = [*self.past, (ground, beings)][-20:]
        else:
            self.ground, self.beings = ground, beings
        return [0, price, len(changed)] + changed + [len(gone)] + gone + [cells]

    def undo(self):
        if self.ground is None:
            return [-2]
        if not self.past:
            return [-8]
        self.ground, self.beings = self.past.pop()
        return [0]

    def told(self, number):
        one = self.beings[number]
        return [*one["cell"], one["life"], one["most"], one["mana"], one["side"]]

    def who(self, number):
        if not 1 <= number <= 1000:
            return [-1]
        if self.ground is None:
            return [-2]
        return [0] + self.told(number) if number in self.beings else [-3]

    def grounds(self):
        if self.ground is None:
            return [-2]
        return [0, self.w * self.h] + [GROUNDS.index(self.ground[x, y]) for y in range(self.h) for x in range(self.w)]

    def level(self):
        if self.ground is None:
            return [-2]
        told = [part for number in sorted(self.beings) for part in [number] + self.told(number)]
        return [0, self.w, self.h, self.following, len(self.past), len(told)] + told

    def bound(self, text):
        if self.ground is None:
            return [-2]
        if first_fault(text, "area")[0]:
            return [-4]
        return [0, bound_of(tree_of([token for place, token in tokens(text)][:-1]), self.w, self.h)]

    def apart(self, text):
        if self.ground is None:
            return [-2]
        if first_fault(text, "spell")[0]:
            return [-4]
        told = apart_of(steps_of(text))
        return [0, len(told)] + told

    def do(self, step, caster, target):
        act, amount, tree, when = step
        found = self.cells(tree, caster, target)
        inside = [one for each, one in sorted(self.beings.items()) if one["cell"] in found]
        origin = caster["cell"]
        if act in ("hurt", "heal"):
            for one in inside:
                one["life"] += amount if act == "heal" else -amount
        elif act in ("push", "pull"):
            for one in inside:
                way = [(one["cell"][k] > origin[k]) - (one["cell"][k] < origin[k]) for k in (0, 1)]
                if act == "pull":
                    way = [-each for each in way]
                for turn in range(amount):
                    following = (one["cell"][0] + way[0], one["cell"][1] + way[1])
                    if way != [0, 0] and self.is_free(following):
                        one["cell"] = following
        elif act == "set":
            for c in found:
                if amount != "wall" or not self.at(c):
                    self.ground[c] = amount
        elif target in found and self.is_free(target):
            caster["cell"] = target


class Maker:
    """Makes calls up."""

    def __init__(self, seed, unsized=UNSIZED, sized=SIZED):
        self.random = random.Random(seed)
        self.unsized, self.sized = unsized, sized

    def pick(self, *choices):
        return self.random.choice(choices)

    def area_words(self, depth):
        kind = self.random.random()
        if depth == 0 or kind < 0.25:
            if self.sized and self.random.random() < 0.3:
                return [self.pick(*self.sized), self.pick("0", "1", "2", "3", "9", "02", "001")]
            return [self.pick(*self.unsized)]
        inner = self.area_words(depth - 1)
        if kind < 0.4:
            return ["("] + inner + [")"]
        if kind < 0.65:
            return [self.pick("not", "grow")] + (inner if self.random.random() < 0.5 else ["("] + inner + [")"])
        other = self.area_words(depth - 1)
        return inner + [self.pick("&", "|")] + (other if self.random.random() < 0.5 else ["("] + other + [")"])

    def step_words(self):
        act = self.pick("hurt", "heal", "push", "pull", "set", "blink", "hurt", "push", "set")
        words = [act]
        if act in ACT_RANGES:
            words.append(self.pick("1", "2", "3", "5", "04"))
        elif act == "set":
            words.append(self.pick(*GROUNDS))
        words += ["on"] + self.area_words(self.pick(0, 1, 1, 2, 3))
        if self.random.random() < 0.3:
            words += ["when"] + self.area_words(self.pick(0, 1, 2))
        return words

    def spell_words(self):
        words = self.step_words()
        for turn in range(self.pick(0, 0, 1, 2, 3)):
            words += [";"] + self.step_words()
        return words

    def spoiled(self, words):
        """The words with one of them left out, put in or changed."""
        words = list(words)
        at = self.random.randrange(len(words) + 1)
        other = self.pick("@", "not", "grow", "(", ")", "|", "&", ";", "when", "on", "10", "0", "100", "1000", "self", "ball", "end",
                          "push", "\x00", "A", "not " * 11 + "not", "(" * 12, "not ( " * 6, "grow " * 12 + "not", "( not " * 7)
        words[at:at + self.pick(0, 1)] = self.pick([], [other])
        return words

    def text(self, words):
        """The words with blanks between them, at most 300 bytes of them."""
        written = ""
        for word in words:
            if written and (written[-1] + word[:1]).isalpha() or written[-1:].isdigit() and word[:1].isdigit():
                written += self.pick(" ", " ", "\t", "\n ")
            else:
                written += self.pick("", " ")
            written += word
        return (written + self.pick("", " ")).encode()[:300]

    def words(self, whole):
        words = self.spell_words() if whole == "spell" else self.area_words(self.pick(0, 1, 2, 3, 4))
        return self.text(self.spoiled(words) if self.random.random() < 0.25 else words)

    def level(self):
        w, h = self.random.randint(2, 12), self.random.randint(2, 12)
        plain = self.pick(0.3, 0.6, 0.9)
        return w, h, [1 if self.random.random() < plain else self.random.randrange(5) for turn in range(w * h)]


class AgainstTheModel(unittest.TestCase):
    def calls_and_answers(self, maker):
        model, calls, expected = Model(), [], []
        if maker.random.random() < 0.1:
            self.add_look(maker, model, calls, expected)
        self.add_open(maker, model, calls, expected)
        for turn in range(maker.random.randint(20, 60)):
            kind = maker.random.random()
            if kind < 0.01:
                self.add_open(maker, model, calls, expected)
            elif kind < 0.2 and (len(model.past) < 3 or kind < 0.03):
                self.add_being(maker, model, calls, expected)
            elif kind < 0.3:
                calls.append(undo())
                expected.append(model.undo())
            elif kind < 0.5:
                self.add_look(maker, model, calls, expected)
            else:
                self.add_aimed(maker, model, calls, expected)
        return calls, expected

    def add_open(self, maker, model, calls, expected):
        w, h, grounds = maker.level()
        calls.append(open_level(w, h, grounds))
        expected.append(model.open(w, h, grounds))

    def add_being(self, maker, model, calls, expected):
        life = maker.random.randint(1, 12)
        numbers = (
            maker.random.randint(0, model.w - 1), maker.random.randint(0, model.h - 1), life, life + maker.pick(-1, 0, 1, 20),
            maker.pick(0, 50, 9000, 90000), maker.random.randint(0, 2),
        )
        calls.append(being(*numbers))
        expected.append(model.being(*numbers))

    def add_look(self, maker, model, calls, expected):
        number, area_text, spell_text = maker.random.randint(0, 9), maker.words("area"), maker.words("spell")
        call, answer = maker.pick(
            (lambda: who(number), lambda: model.who(number)), (ground, model.grounds), (level, model.level),
            (lambda: bound(area_text), lambda: model.bound(area_text)), (lambda: apart(spell_text), lambda: model.apart(spell_text)),
        )
        calls.append(call())
        expected.append(answer())

    def add_aimed(self, maker, model, calls, expected):
        x, y = maker.random.randint(0, model.w - 1), maker.random.randint(0, model.h - 1)
        number = maker.random.randint(1, min(9, model.following))
        kind = maker.random.random()
        if kind < 0.3:
            text = maker.words("area")
            calls.append(area(number, x, y, text))
            expected.append(model.area(number, x, y, text))
        else:
            text = maker.words("spell")
            kept = kind < 0.8
            calls.append((cast if kept else attempt)(number, x, y, text))
            expected.append(model.cast(number, x, y, text, kept))

    def test_levels(self):
        accepted = 0
        for seed in range(250):
            calls, expected = self.calls_and_answers(Maker(seed))
            told = run(*calls)
            for call, answer, right in zip(calls, told, expected, strict=True):
                self.assertEqual(answer, right, (seed, call))
                accepted += answer[0] == 0
        self.assertGreater(accepted, 3000)

    def test_texts(self):
        maker = Maker(1000)
        met = {}
        for turn in range(3000):
            words = maker.spell_words()
            for spoiling in range(maker.pick(0, 1, 1, 2)):
                words = maker.spoiled(words)
            text = maker.text(words)
            number, place = first_fault(text, "spell")
            met[number] = met.get(number, 0) + 1
            checked, printed, priced = run(open_level(5, 4), check(text), print_form(text), cost(text))[1:]
            self.assertEqual(checked, [0, number, place], text)
            if number:
                self.assertEqual([printed, priced], [[-4], [-4]], text)
            else:
                self.assertEqual(priced, [0, cost_of(steps_of(text), 5, 4)], text)
                self.assert_one_form(steps_of(text), printed)
        self.assertEqual(sorted(met), [0, 1, 2, 3, 6])
        self.assertGreater(min(met.values()), 10)

    def test_simpler_texts(self):
        makers = (Maker(2000), Maker(2001, ("fire", "ice", "all"), ()), Maker(2002, ("fire", "all"), ()), Maker(2003, ("fire", "self"), ("ring",)))
        changed = 0
        for turn in range(3000):
            maker = makers[turn % len(makers)]
            words = ["blink", "on"] + maker.area_words(maker.pick(1, 2, 3, 4, 5))
            if maker.random.random() < 0.3:
                words += ["when"] + maker.area_words(maker.pick(1, 2, 3, 4))
            text = maker.text(words)
            told = run(open_level(2, 2), tidy(text))[1]
            if first_fault(text, "spell")[0]:
                self.assertEqual(told, [-4], text)
            else:
                steps = simpler_steps(steps_of(text))
                self.assert_one_form(steps, told)
                changed += steps != steps_of(text)
        self.assertGreater(changed, 1000)

    def assert_one_form(self, steps, printed):
        self.assertEqual(printed[:2], [0, len(printed) - 2])
        form = bytes(printed[2:])
        self.assertEqual(first_fault(form, "spell"), (0, 0), form)
        self.assertEqual(steps_of(form), steps, form)
        self.assertIsNone(re.search(rb"  |[^ -~]|\( | [);]|\b0[0-9]|^ | $|[;|&][^ ]|[a-z0-9)][|&(]", form), form)
        for opening in [place for place, token in tokens(form) if token == "("]:
            closing = self.closing_of(form, opening)
            without = form[:opening] + b" " + form[opening + 1:closing] + b" " + form[closing + 1:]
            self.assertNotEqual(steps_of(without), steps, form)

    def closing_of(self, form, opening):
        depth = 0
        for place in range(opening, len(form)):
            depth += {40: 1, 41: -1}.get(form[place], 0)
            if depth == 0:
                return place
        raise AssertionError(form)


if __name__ == "__main__":
    unittest.main()
