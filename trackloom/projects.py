"""Projects: a map of time, a pool of sounds, and the nodes that are heard."""

from trackloom.barring import Metre
from trackloom.checking import is_ascending, is_integer, is_name, is_row
from trackloom.clips import is_clip, is_pool
from trackloom.curves import is_curve
from trackloom.effects import delay_in, is_effect
from trackloom.errors import InvalidName, InvalidNodes, InvalidPool, Round
from trackloom.pacing import Tempo
from trackloom.parts import is_part
from trackloom.tones import is_tone

MOST_CLIPS = 8
MOST_EFFECTS = 6
MOST_INPUTS = 6
MOST_NODES = 12

# The parts of the least project that there is.
PACES = ((0, 1, "flat"),)
BARS = ((0, 1),)
NODES = (("a", None, (), (), ((0, 0),), 0),)


def is_node(value):
    """Whether any value is a node (name, source, effects, inputs, level, silent)."""
    return (
        is_row(value, 6, 6)
        and is_name(value[0])
        and is_source(value[1])
        and are_effects(value[2])
        and are_inputs(value[3])
        and is_curve(value[4])
        and is_integer(value[5], 0, 1)
    )


def is_source(value):
    """Whether any value is a source."""
    if is_row(value, 3, 3):
        return value[0] == "tone" and is_tone(value[1]) and is_part(value[2])
    if is_row(value, 2, 2):
        return value[0] == "clips" and are_clips(value[1])
    return value is None


def are_clips(value):
    """Whether any value is the clips of a source."""
    return is_row(value, 0, MOST_CLIPS) and all([is_clip(clip) for clip in value]) and is_ascending(value)


def are_effects(value):
    """Whether any value is the effects of a node."""
    return is_row(value, 0, MOST_EFFECTS) and all([is_effect(effect) for effect in value])


def are_inputs(value):
    """Whether any value is the inputs of a node."""
    return is_row(value, 0, MOST_INPUTS) and all([is_input(member) for member in value]) and is_ascending(value)


def is_input(value):
    """Whether any value is an input (name, gain, word)."""
    return (
        is_row(value, 3, 3)
        and is_name(value[0])
        and is_integer(value[1], -1024, 1024)
        and value[2] in ("now", "late")
    )


def are_nodes(value):
    """Whether any value is nodes."""
    return (
        is_row(value, 1, MOST_NODES)
        and all([is_node(node) for node in value])
        and is_ascending(names_of(value))
        and are_whole(value)
    )


def are_whole(nodes):
    """Whether each input of each of the nodes has the name of one of them."""
    names = names_of(nodes)
    return all([name in names for node in nodes for name in heard_by(node)])


def names_of(nodes):
    """The names of the nodes."""
    return [node[0] for node in nodes]


def heard_by(node):
    """The names of all that the node hears, now or late."""
    return [name for name, _, _ in node[3]]


def heard_now(node):
    """The names of all that the node hears now."""
    return [name for name, _, word in node[3] if word == "now"]


class Project:
    """All that is heard, and when; equal to others that have the same four parts.

    The attribute order tells the names of the nodes, each behind all that its
    node hears now; arrivals tells by the names how late the nodes are heard.
    """

    def __init__(self, paces, bars, pool, nodes):
        self.tempo = Tempo(paces)
        self.metre = Metre(bars)
        if not is_pool(pool):
            raise InvalidPool(pool)
        if not are_nodes(nodes):
            raise InvalidNodes(nodes)
        order, arrivals = laid_out(nodes)
        self.order = order
        self.arrivals = arrivals
        self.paces = paces
        self.bars = bars
        self.pool = pool
        self.nodes = nodes

    def __eq__(self, other):
        return (
            isinstance(other, Project)
            and self.paces == other.paces
            and self.bars == other.bars
            and self.pool == other.pool
            and self.nodes == other.nodes
        )


def assembled(tempo, metre, pool, nodes):
    """The project of these parts, all known to be right but for rings of nodes, which are refused.

    None of them is checked, and no time reckoned, anew, as it would be if a
    Project were made of all of them.
    """
    order, arrivals = laid_out(nodes)
    made = Project(PACES, BARS, (), NODES)
    made.order = order
    made.arrivals = arrivals
    made.tempo = tempo
    made.metre = metre
    made.paces = tempo.paces
    made.bars = metre.bars
    made.pool = pool
    made.nodes = nodes
    return made


def laid_out(nodes):
    """The order and the arrivals of the nodes; raises Round if they hear one another now in a ring."""
    order = order_of(nodes)
    if len(order) < len(nodes):
        raise Round(ringed(nodes))
    named = {node[0]: node for node in nodes}
    arrivals = {}
    for name in order:
        delays = [delay_in(effect) for effect in named[name][2]]
        arrivals[name] = ahead_of(named[name], arrivals) + sum(delays)
    return order, arrivals


def order_of(nodes):
    """The names of the nodes, each behind all that its node hears now; without those that rings keep back."""
    waits = {node[0]: len(heard_now(node)) for node in nodes}
    hearers = {node[0]: [] for node in nodes}
    for node in nodes:
        for name in heard_now(node):
            hearers[name].append(node[0])
    order = []
    free = [node[0] for node in nodes if waits[node[0]] == 0]
    while free:
        name = free.pop()
        order.append(name)
        for hearer in hearers[name]:
            waits[hearer] = waits[hearer] - 1
            if waits[hearer] == 0:
                free.append(hearer)
    return tuple(order)


def ringed(nodes):
    """The names of all nodes that hear themselves now, by whatever way."""
    links = {node[0]: heard_now(node) for node in nodes}
    return tuple([name for name in names_of(nodes) if name in followed(links, links[name])])


def followed(links, names):
    """The names, and all those to which links, a dict of names and lists of names, lead from them."""
    found = []
    left = list(names)
    while left:
        name = left.pop()
        if name not in found:
            found.append(name)
            left.extend(links[name])
    return found


def rings_of(order, links):
    """The names of the order in rows, each behind all to which links, a dict of names and lists of names, lead from it.

    In one row stand those that lead to one another, so that from all of them
    just the same is reached, they themselves with it. A row that leads to
    another one reaches all that this does, and more, so its mask is greater.
    """
    places = {name: place for place, name in enumerate(order)}
    if all([places[other] < places[name] for name in order for other in links[name]]):
        return [[name] for name in order]
    rings = {}
    for name, mask in zip(order, masks_of(order, places, links)):
        rings.setdefault(mask, []).append(name)
    return [rings[mask] for mask in sorted(rings)]


def masks_of(order, places, links):
    """For each name of the order a number with a bit for each place that links lead to from it, and for its own."""
    masks = []
    for place, name in enumerate(order):
        mask = 1 << place
        for other in links[name]:
            mask = mask | 1 << places[other]
        masks.append(mask)
    for place in range(len(order)):
        through = masks[place]
        masks = [mask | through if mask >> place & 1 else mask for mask in masks]
    return masks


def node_of(project, name):
    """The node of this name."""
    for node in project.nodes:
        if node[0] == name:
            return node
    raise InvalidName(name)


def arrival(project, name):
    """How many samples late the node of this name is heard."""
    node_of(project, name)
    return project.arrivals[name]


def ahead_of(node, arrivals):
    """How late the latest comes of all that the node hears now."""
    return max([0] + [arrivals[name] for name in heard_now(node)])


def lags_of(node, arrivals):
    """For each input of the node the triple (name, gain, lag): so many samples later it is heard."""
    ahead = ahead_of(node, arrivals)
    return [
        (name, gain, 1 if word == "late" else ahead - arrivals[name])
        for name, gain, word in node[3]
    ]
