"""Which notes and clips of a project a sample hangs on."""

from trackloom.checking import check_number, is_ascending, is_row
from trackloom.clips import is_clip
from trackloom.effects import span_of
from trackloom.errors import InvalidValue
from trackloom.parts import is_note
from trackloom.projects import Project, ahead_of, arrivals_of, lags_of, node_of, order_of
from trackloom.tones import spans_of


def things(project):
    """The triples of all notes and clips of the project."""
    return tuple([thing for node in project.nodes for thing in things_of(node)])


def things_of(node):
    """The triples of all notes and clips of the node."""
    name, source = node[:2]
    if source is None:
        return []
    if source[0] == "clips":
        return [(name, "clip", clip) for clip in source[1]]
    return [(name, "note", note) for note in source[2]]


def without(project, some):
    """The project without some of its things."""
    if not are_things(project, some):
        raise InvalidValue(some)
    nodes = tuple([node[:1] + (source_without(node, some),) + node[2:] for node in project.nodes])
    return Project(project.paces, project.bars, project.pool, nodes)


def are_things(project, value):
    """Whether any value is an ascending tuple of things of the project."""
    known = things(project)
    return (
        is_row(value, 0, len(known))
        and all([is_of_numbers(member) and member in known for member in value])
        and is_ascending(value)
    )


def is_of_numbers(value):
    """Whether any value is a triple with a note or a clip: with bools in it it could be equal to a thing."""
    return is_row(value, 3, 3) and (is_note(value[2]) or is_clip(value[2]))


def source_without(node, some):
    """The source of the node without those of these things that are its own."""
    left = tuple([thing[2] for thing in things_of(node) if thing not in some])
    source = node[1]
    return None if source is None else source[:-1] + (left,)


def makers(project, name, number):
    """The things that are makers of the sample with this number of the node of this name.

    A sample hangs on none with a greater number, and not at once on one of a
    node behind its own in an order; so, from the last number down and from
    the last node to the first, each is looked at when all that hang on it are
    known.
    """
    node_of(project, name)
    check_number(number, 0, 599)
    arrivals = arrivals_of(project)
    trails = {node[0]: Trail(project, node, arrivals, number + 1) for node in project.nodes}
    trails[name].wanted[number] = True
    upward = order_of(project.nodes)[::-1]
    found = {}
    for at in range(number, -1, -1):
        for one in upward:
            trail = trails[one]
            trail.spread(at)
            for thing in trail.things_at(at):
                found[thing] = True
            heard = trail.heard_at(at)
            for other, back in heard:
                trails[other].wanted[back] = True
    return tuple(sorted(found))


class Trail:
    """Which samples of one node are hung on.

    Of those that come of the node wanted tells, of those that go into its
    effects inner.
    """

    def __init__(self, project, node, arrivals, many):
        self.wanted = [False] * many
        self.inner = [False] * many
        self.silent = node[5]
        self.span = span_of_all(node[2])
        self.ahead = ahead_of(node, arrivals)
        self.lags = [(name, lag) for name, gain, lag in lags_of(node, arrivals) if gain != 0]
        self.stretches = stretches_of(project, node)

    def spread(self, at):
        """Marks what goes into the effects wherever the sample numbered at, if it is hung on, hangs on it."""
        if self.wanted[at] and not self.silent:
            first, last = self.span
            low = 0 if last is None else max(at - last, 0)
            for number in range(low, at - first + 1):
                self.inner[number] = True

    def things_at(self, at):
        """The things that are hung on at the sample numbered at of what goes into the effects."""
        sample = at - self.ahead
        if not self.inner[at] or sample < 0:
            return []
        return [thing for thing, first, last in self.stretches if first <= sample < last]

    def heard_at(self, at):
        """The pairs (name, number) of the samples that the sample numbered at, if it is hung on, has of others."""
        if not self.inner[at]:
            return []
        return [(name, at - lag) for name, lag in self.lags if at >= lag]


def span_of_all(effects):
    """How far back the first and the last sample lie that a sample hangs on by all effects."""
    first = 0
    last = 0
    for effect in effects:
        one, other = span_of(effect)
        first = first + one
        last = None if last is None or other is None else last + other
    return first, last


def stretches_of(project, node):
    """For each thing of the node the triple of it, its first sample and the one behind its last."""
    source = node[1]
    if source is None:
        return []
    if source[0] == "clips":
        ends = [(clip[1], clip[1] + clip[2]) for clip in source[1]]
    else:
        fade = source[1][2][3]
        ends = [(begin, begin + held + fade) for _, begin, held in spans_of(source[2], project.tempo)]
    return [(thing, first, last) for thing, (first, last) in zip(things_of(node), ends)]
