"""What the document says of effects and nodes, told again without any care for speed; and projects made at random."""

from fractions import Fraction
from functools import cache
from math import floor

from trackloom.clips import clip_at
from trackloom.curves import value_at
from trackloom.pacing import tick_of
from trackloom.projects import Project
from trackloom.tones import even_tuning, played

BOUND = 8388607
LEVEL = ((0, 256),)
PACES = ((0, 10, "flat"),)
BARS = ((0, 4),)
POOL = (("drum", (1000, -2000, 3000, -4000, 5000)), ("hum", tuple(k * 37 % 200 - 100 for k in range(90))))


def quotient(number, by):
    """Rounded down, over fractions."""
    return floor(Fraction(number, by))


def held_between(number):
    """The number, kept between the bounds."""
    return sorted((-BOUND, number, BOUND))[1]


def effect_at(effect, x, y, n):
    """The sample y(n) of an effect, of functions that tell the samples of both rows."""
    word = effect[0]
    if word == "gain":
        value = quotient(x(n) * effect[1], 256)
    elif word == "wait":
        value = x(n - effect[1])
    elif word == "echo":
        value = x(n) + quotient(y(n - effect[1]) * effect[2], 256)
    elif word == "smooth":
        value = y(n - 1) + quotient((x(n) - y(n - 1)) * effect[1], 256)
    elif word == "mix":
        value = quotient(sum(tap * x(n - i) for i, tap in enumerate(effect[1])), 256)
    elif word == "crush":
        value = quotient(x(n), 2 ** effect[1]) * 2 ** effect[1]
    else:
        _, top, ahead = effect
        near = [x(m) for m in range(n - ahead, n + 1)]
        least = min([256] + [quotient(top * 256, abs(value)) for value in near if value > top or value < -top])
        value = quotient(x(n - ahead) * least, 256)
    return held_between(value)


def effect_on(effect, samples):
    """The row that an effect makes of the samples."""
    made = []

    def x(n):
        return samples[n] if n >= 0 else 0

    def y(n):
        return made[n] if n >= 0 else 0

    for n in range(len(samples)):
        made.append(effect_at(effect, x, y, n))
    return tuple(made)


class Meaning:
    """The meaning of a project, with the rows of some nodes kept."""

    def __init__(self, project, kept=()):
        self.project = project
        self.nodes = {node[0]: node for node in project.nodes}
        self.kept = dict(kept)
        self.known = {}

    def ahead(self, name):
        return max([0] + [self.arrival(other) for other, _, word in self.nodes[name][3] if word == "now"])

    @cache
    def arrival(self, name):
        return self.ahead(name) + sum(effect[2] for effect in self.nodes[name][2] if effect[0] == "limit")

    def source(self, name, m):
        source = self.nodes[name][1]
        if m < 0 or source is None:
            return 0
        if source[0] == "tone":
            return played(source[1], source[2], self.project.tempo, m)
        return sum(clip_at(self.project.pool, clip, m) for clip in source[1])

    def row(self, name, stage, n):
        """in(n) as the stage numbered 0, then what each of the effects makes."""
        if n < 0:
            return 0
        key = name, stage, n
        if key not in self.known:
            if stage == 0:
                self.known[key] = self.inner(name, n)
            else:
                self.known[key] = effect_at(
                    self.nodes[name][2][stage - 1],
                    lambda m: self.row(name, stage - 1, m), lambda m: self.row(name, stage, m), n,
                )
        return self.known[key]

    def inner(self, name, n):
        total = self.source(name, n - self.ahead(name))
        for other, gain, word in self.nodes[name][3]:
            number = n - 1 if word == "late" else n - (self.ahead(name) - self.arrival(other))
            total += quotient(self.out(other, number) * gain, 256)
        return held_between(total)

    def out(self, name, n):
        if n < 0:
            return 0
        if name in self.kept:
            return self.kept[name][n]
        _, _, effects, _, level, silent = self.nodes[name]
        if silent:
            return 0
        key = name, "out", n
        if key not in self.known:
            tick = tick_of(self.project.tempo, max(n - self.arrival(name), 0))[0]
            self.known[key] = held_between(quotient(self.row(name, len(effects), n) * value_at(level, tick), 256))
        return self.known[key]

    def rows(self, many):
        """The pairs (name, samples) of all nodes, so many samples of each."""
        made = {name: [] for name in self.nodes}
        for n in range(many):
            for name in self.nodes:
                made[name].append(self.out(name, n))
        return tuple((name, tuple(made[name])) for name in sorted(made))


def some_effect(source):
    word = source.choice(("gain", "wait", "echo", "smooth", "mix", "crush", "limit"))
    return {
        "gain": ("gain", source.choice((-1024, -255, 0, 1, 256, 1024))),
        "wait": ("wait", source.choice((0, 1, 3, 200))),
        "echo": ("echo", source.choice((1, 2, 7, 200)), source.choice((-255, -3, 0, 128, 255))),
        "smooth": ("smooth", source.choice((1, 17, 255, 256))),
        "mix": ("mix", tuple(source.randrange(-256, 257) for _ in range(source.randrange(1, 9)))),
        "crush": ("crush", source.choice((1, 4, 15))),
        "limit": ("limit", source.choice((1, 500, 30000, BOUND)), source.choice((0, 1, 5, 32))),
    }[word]


def some_source(source):
    kind = source.randrange(5)
    if kind == 0:
        return None
    if kind < 3:
        wave = source.choice((("saw",), ("square",), ("noise", 77), ("table", (32767, -32767, 5))))
        tone = (wave, even_tuning(), (source.randrange(9), 3, source.choice((0, 200, 256)), source.randrange(30)),
                source.choice((1, 2, 8)))
        part = {(source.randrange(12), source.randrange(1, 6), source.randrange(30, 110), source.choice((20, 127)))
                for _ in range(source.randrange(7))}
        return ("tone", tone, tuple(sorted(part)))
    clips = {(source.choice(("drum", "hum", "none")), source.randrange(60), source.randrange(1, 90),
              source.randrange(-5, 9), (source.choice((-1, 1, 2)), source.choice((1, 2))),
              source.choice((-1024, 256, 1024)), (0, 0), source.choice(((0, 0), (0, 40))))
             for _ in range(source.randrange(5))}
    return ("clips", tuple(sorted(clips)))


def some_level(source):
    ticks = sorted(source.sample(range(20), source.randrange(1, 4)))
    return tuple((tick, source.choice((-1024, 0, 200, 256, 1024))) for tick in ticks)


def some_node(source, name, ahead, names):
    """A node of this name that hears now at most some of those ahead, and late any."""
    inputs = {(other, source.choice((-1024, -256, 0, 100, 256, 300)), "now")
              for other in source.sample(ahead, min(len(ahead), source.randrange(4)))}
    inputs |= {(source.choice(names), source.choice((-256, 0, 90, 256, 1024)), "late")
               for _ in range(source.choice((0, 0, 1, 2)))}
    effects = tuple(some_effect(source) for _ in range(source.choice((0, 1, 2, 2, 3, 6))))
    silent = 1 if source.randrange(8) == 0 else 0
    return (name, some_source(source), effects, tuple(sorted(inputs)), some_level(source), silent)


def some_project(source, many=None):
    names = source.sample(["a", "ab", "b", "bass", "d", "lead", "mix", "z"], many or source.randrange(1, 7))
    nodes = [some_node(source, name, names[:at], names) for at, name in enumerate(names)]
    paces = source.choice((PACES, ((0, 5, "ramp"), (7, 20, "ramp"), (12, 3, "flat")), ((0, 1, "flat"),)))
    return Project(paces, BARS, source.choice((POOL, POOL, POOL[:1], ())), tuple(sorted(nodes)))
