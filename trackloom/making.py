"""Which notes and clips of a project a sample hangs on."""

from trackloom.checking import check_number, is_ascending, is_row
from trackloom.clips import is_clip
from trackloom.effects import span_in
from trackloom.errors import InvalidValue
from trackloom.parts import is_note
from trackloom.playing import is_ring, links_of
from trackloom.projects import Project, ahead_of, lags_of, node_of, rings_of
from trackloom.tones import spans_of


def things(project):
    """The triples of all notes and clips of the project."""
    return tuple([thing for node in project.nodes for thing in things_of(node)])


def things_of(node):
    """The triples of all notes and clips of the node."""
    name, source = node[:2]
    if source is None:
        return []
    if source[0] == "clips":
        return [(name, "clip", clip) for clip in source[1]]
    return [(name, "note", note) for note in source[2]]


def without(project, some):
    """The project without some of its things."""
    if not are_things(project, some):
        raise InvalidValue(some)
    nodes = tuple([node[:1] + (source_without(node, some),) + node[2:] for node in project.nodes])
    return Project(project.paces, project.bars, project.pool, nodes)


def are_things(project, value):
    """Whether any value is an ascending tuple of things of the project."""
    known = things(project)
    return (
        is_row(value, 0, len(known))
        and all([is_of_numbers(member) and member in known for member in value])
        and is_ascending(value)
    )


def is_of_numbers(value):
    """Whether any value is a triple with a note or a clip: with bools in it it could be equal to a thing."""
    return is_row(value, 3, 3) and (is_note(value[2]) or is_clip(value[2]))


def source_without(node, some):
    """The source of the node without those of these things that are its own."""
    left = tuple([thing[2] for thing in things_of(node) if thing not in some])
    source = node[1]
    return None if source is None else source[:-1] + (left,)


def makers(project, name, number):
    """The things that are makers of the sample with this number of the node of this name.

    When a node is looked at, all that hang on it are known: it stands ahead
    of them. In a ring they are known up to one sample, from the last one
    down, as no sample hangs on one with a greater number.
    """
    node_of(project, name)
    check_number(number, 0, 599)
    links = links_of(project, {})
    trails = {node[0]: Trail(project, node) for node in project.nodes}
    asked = trails[name]
    asked.wanted = 1 << number
    for names in rings_of(project.order, links)[::-1]:
        upward = [trails[one] for one in names[::-1]]
        if is_ring(names, links):
            for at in range(number, -1, -1):
                spread_all(trails, upward, 1 << at)
        else:
            spread_all(trails, upward, (1 << number + 1) - 1)
    found = [thing for trail in trails.values() for thing in trail.things_up_to(number)]
    return tuple(sorted(found))


def spread_all(trails, upward, mask):
    """Marks what those samples hang on that are in the mask and wanted of some trails, each ahead of what it hears."""
    for trail in upward:
        trail.inner = trail.inner | trail.spread(trail.wanted & mask)
        inner = trail.inner & mask
        for name, lag in trail.lags:
            other = trails[name]
            other.wanted = other.wanted | inner >> lag


class Trail:
    """Which samples of one node are hung on, as bits of a number: bit 0 for the sample numbered 0, and so on.

    Of those that come of the node wanted tells, of those that go into its
    effects inner.
    """

    def __init__(self, project, node):
        self.wanted = 0
        self.inner = 0
        self.silent = node[5]
        self.span = span_of_all(node[2])
        self.ahead = ahead_of(node, project.arrivals)
        self.lags = [(name, lag) for name, gain, lag in lags_of(node, project.arrivals) if gain != 0]
        self.stretches = stretches_of(project, node)

    def spread(self, wanted):
        """What goes into the effects, where wanted hangs on it."""
        if self.silent:
            return 0
        first, last = self.span
        inner = wanted >> first
        if last is None:
            return (1 << inner.bit_length()) - 1
        reach = 1
        while reach < last - first + 1:
            step = min(reach, last - first + 1 - reach)
            inner = inner | inner >> step
            reach = reach + step
        return inner

    def things_up_to(self, number):
        """The things that are hung on at some sample up to this number of what goes into the effects."""
        found = []
        for thing, first, last in self.stretches:
            low = first + self.ahead
            many = min(last + self.ahead, number + 1) - low
            if many > 0 and self.inner >> low & (1 << many) - 1:
                found.append(thing)
        return found


def span_of_all(effects):
    """How far back the first and the last sample lie that a sample hangs on by all effects."""
    first = 0
    last = 0
    for effect in effects:
        one, other = span_in(effect)
        first = first + one
        last = None if last is None or other is None else last + other
    return first, last


def stretches_of(project, node):
    """For each thing of the node the triple of it, its first sample and the one behind its last."""
    source = node[1]
    if source is None:
        return []
    if source[0] == "clips":
        ends = [(clip[1], clip[1] + clip[2]) for clip in source[1]]
    else:
        fade = source[1][2][3]
        ends = [(begin, begin + held + fade) for _, begin, held in spans_of(source[2], project.tempo)]
    return [(thing, first, last) for thing, (first, last) in zip(things_of(node), ends)]
