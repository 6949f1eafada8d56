"""Plays the nodes of a project: in whole stretches, or, where nodes hear themselves, sample by sample."""

from trackloom.clips import clip_between
from trackloom.curves import values_along
from trackloom.effects import all_held, held, lengthen, made, memory_of
from trackloom.pacing import ticks_between
from trackloom.projects import ahead_of, followed, lags_of, rings_of
from trackloom.tones import spans_of, sums_between


class Player:
    """Goes on with the rows of some nodes.

    The order tells which nodes: each behind all that it hears now. A node
    with a row in kept, a dict, is not played: its row is taken as it is. The
    attribute outs tells the rows that come of the nodes, by their names.
    """

    def __init__(self, project, order, kept):
        self.tempo = project.tempo
        self.at = 0
        self.ticks = []
        self.outs = {name: list(kept.get(name, ())) for name in order}
        self.strips = {
            node[0]: Strip(project, node, self.outs)
            for node in project.nodes
            if node[0] in self.outs and node[0] not in kept
        }
        links = links_of(project, kept)
        self.rings = [(is_ring(names, links), names) for names in rings_of(order, links) if names[0] not in kept]

    def play(self, many):
        """Goes on until so many samples of each node are known."""
        first = self.at
        if first >= many:
            return
        self.ticks.extend(ticks_between(self.tempo, first, many))
        for ringed, names in self.rings:
            strips = [self.strips[name] for name in names]
            if ringed:
                play_ring(strips, first, many, self.ticks)
            else:
                strips[0].play(first, many, self.ticks)
        self.at = many


def links_of(project, kept):
    """For each name the names of all that has to be known to know the row of its node, those in kept being known."""
    return {
        node[0]: [] if node[0] in kept or node[5] == 1 else [name for name, gain, _ in node[3] if gain != 0]
        for node in project.nodes
    }


def is_ring(names, links):
    """Whether the nodes of these names, which stand in one row by the links, hear themselves."""
    return len(names) > 1 or names[0] in links[names[0]]


def play_ring(strips, first, last, ticks):
    """Makes the samples from first up to, and without, last of strips that hear one another."""
    for strip in strips:
        strip.prepare(first, last, ticks)
    for at in range(first, last):
        for strip in strips:
            strip.step(at)


class Strip:
    """One node that is played.

    For each sample given tells what the source gives to it, and levels what
    the level is then; rows are what goes into the effects and what each of them
    makes of it, with as much ahead of all samples as effects remember.
    """

    def __init__(self, project, node, outs):
        name, source, effects, _, level, silent = node
        arrivals = project.arrivals
        remembered = max([0] + [memory_of(effect) for effect in effects])
        self.silent = silent
        self.source = Source(project, source)
        self.ahead = ahead_of(node, arrivals)
        self.arrival = arrivals[name]
        self.inputs = [] if silent else [
            (outs[other], gain, lag)
            for other, gain, lag in lags_of(node, arrivals)
            if gain != 0
        ]
        self.effects = effects
        self.level = level
        self.given = []
        self.levels = []
        self.rows = [[0] * remembered for _ in range(len(effects) + 1)]
        self.out = outs[name]

    def play(self, first, last, ticks):
        """Makes the samples from first up to, and without, last, all that it hears being known."""
        if self.silent:
            self.out.extend([0] * (last - first))
            return
        self.prepare(first, last, ticks)
        self.rows[0].extend(self.heard_between(first, last))
        self.go_through()
        row = self.rows[-1][first - last:]
        self.out.extend(all_held([sample * value // 256 for sample, value in zip(row, self.levels[first:])]))

    def prepare(self, first, last, ticks):
        """Lets given and levels reach up to last."""
        self.given.extend(self.source.between(first - self.ahead, last - self.ahead))
        near = stretch_of(ticks, first - self.arrival, last - self.arrival)
        along = values_along(self.level, near[0], near[-1] + 1)
        self.levels.extend([along[tick - near[0]] for tick in near])

    def heard_between(self, first, last):
        """What goes into the effects: of the source, and of all that the node hears."""
        total = self.given[first:last]
        for out, gain, lag in self.inputs:
            heard = stretch_of(out, first - lag, last - lag)
            total = [one + sample * gain // 256 for one, sample in zip(total, heard)]
        return all_held(total)

    def go_through(self):
        """Makes the rows behind the effects as long as the one that goes into them."""
        for number, effect in enumerate(self.effects):
            lengthen(effect, self.rows[number], self.rows[number + 1])

    def step(self, at):
        """Makes the sample numbered at, all that it hears of being known, and the strip prepared."""
        total = self.given[at]
        for out, gain, lag in self.inputs:
            if at >= lag:
                total = total + out[at - lag] * gain // 256
        self.rows[0].append(held(total))
        here = len(self.rows[0]) - 1
        for number, effect in enumerate(self.effects):
            self.rows[number + 1].append(made(effect, self.rows[number], self.rows[number + 1], here))
        self.out.append(held(self.rows[-1][here] * self.levels[at] // 256))


def stretch_of(row, first, last):
    """The members of the row from the number first up to, and without, last, 0 for each ahead of it."""
    if first >= 0:
        return row[first:last]
    return [0] * (min(last, 0) - first) + row[:max(last, 0)]


class Source:
    """The source of a node, with what can be reckoned of it ahead of all samples."""

    def __init__(self, project, source):
        self.pool = project.pool
        self.clips = ()
        self.tone = None
        self.spans = []
        if source is not None and source[0] == "clips":
            self.clips = source[1]
        elif source is not None:
            self.tone = source[1]
            self.spans = spans_of(source[2], project.tempo)

    def between(self, first, last):
        """What it gives from the sample first up to, and without, last, 0 ahead of all samples."""
        begin = min(max(first, 0), last)
        ahead = [0] * (begin - first)
        if self.tone is not None:
            return ahead + sums_between(self.tone, self.spans, begin, last)
        row = [0] * (last - begin)
        for clip in self.clips:
            at, more = clip_between(self.pool, clip, begin, last)
            end = at - begin + len(more)
            row[at - begin:end] = [total + sample for total, sample in zip(row[at - begin:end], more)]
        return ahead + row


def played_out(project, order, kept, name, many):
    """The first samples, so many, of the node of this name, with the rows in kept, a dict, as they are."""
    return tuple(played_rows(project, order, kept, [name], many)[name])


def played_rows(project, order, kept, names, many):
    """The rows, by their names, of the nodes with these names, and of others, as played_out tells them."""
    needed = followed(links_of(project, kept), names)
    player = Player(project, [other for other in order if other in needed], kept)
    player.play(many)
    return player.outs
