"""Plays the nodes of a project, sample by sample."""

from trackloom.clips import clip_in
from trackloom.curves import value_along
from trackloom.effects import held, made
from trackloom.pacing import tick_of
from trackloom.projects import ahead_of, arrivals_of, followed, heard_by, lags_of, node_of
from trackloom.tones import spans_of, sum_at


class Player:
    """Goes on with the rows of some nodes, all with one sample after the other.

    The order tells which nodes: each behind all that it hears now. A node
    with a row in kept, a dict, is not played: its row is taken as it is. The
    attribute outs tells the rows that come of the nodes, by their names.
    """

    def __init__(self, project, order, kept):
        arrivals = arrivals_of(project)
        self.tempo = project.tempo
        self.at = 0
        self.ticks = []
        self.outs = {name: list(kept.get(name, ())) for name in order}
        self.strips = [
            Strip(project, node_of(project, name), arrivals, self.outs)
            for name in order
            if name not in kept
        ]

    def play(self, many):
        """Goes on until so many samples of each node are known."""
        while self.at < many:
            self.ticks.append(tick_of(self.tempo, self.at)[0])
            for strip in self.strips:
                strip.go_on(self.at, self.ticks)
            self.at = self.at + 1


class Strip:
    """One node that is played: rows are what goes into its effects and what each of them makes of it."""

    def __init__(self, project, node, arrivals, outs):
        name, source, effects, _, level, silent = node
        self.source = Source(project, source)
        self.ahead = ahead_of(node, arrivals)
        self.arrival = arrivals[name]
        self.inputs = [(outs[other], gain, lag) for other, gain, lag in lags_of(node, arrivals)]
        self.effects = effects
        self.rows = [[] for _ in range(len(effects) + 1)]
        self.level = level
        self.silent = silent
        self.out = outs[name]

    def go_on(self, at, ticks):
        """Makes the sample numbered at, the ticks of all samples up to it being known."""
        if self.silent:
            self.out.append(0)
            return
        self.rows[0].append(self.heard_at(at))
        for number, effect in enumerate(self.effects):
            self.rows[number + 1].append(made(effect, self.rows[number], self.rows[number + 1], at))
        value = value_along(self.level, ticks[max(at - self.arrival, 0)])
        self.out.append(held(self.rows[-1][at] * value // 256))

    def heard_at(self, at):
        """What goes into the effects: of the source, and of all that the node hears."""
        total = self.source.given(at - self.ahead)
        for out, gain, lag in self.inputs:
            if at >= lag:
                total = total + out[at - lag] * gain // 256
        return held(total)


class Source:
    """The source of a node, with what can be reckoned of it ahead of all samples."""

    def __init__(self, project, source):
        self.pool = project.pool
        self.clips = ()
        self.tone = None
        self.spans = []
        if source is not None and source[0] == "clips":
            self.clips = source[1]
        elif source is not None:
            self.tone = source[1]
            self.spans = spans_of(source[2], project.tempo)

    def given(self, sample):
        """What it gives at the sample, 0 ahead of all samples."""
        if sample < 0:
            return 0
        if self.tone is not None:
            return sum_at(self.tone, self.spans, sample)
        return sum([clip_in(self.pool, clip, sample) for clip in self.clips])


def played_out(project, order, kept, name, many):
    """The first samples, so many, of the node of this name, with the rows in kept, a dict, as they are."""
    return tuple(played_rows(project, order, kept, [name], many)[name])


def played_rows(project, order, kept, names, many):
    """The rows, by their names, of the nodes with these names, and of others, as played_out tells them."""
    links = {node[0]: [] if node[0] in kept else heard_by(node) for node in project.nodes}
    needed = followed(links, names)
    player = Player(project, [other for other in order if other in needed], kept)
    player.play(many)
    return player.outs
