"""Deeds: what people do to a project."""

from trackloom.barring import Metre, are_bars
from trackloom.checking import is_integer, is_name, is_row
from trackloom.clips import MOST_SOUNDS, is_clip, is_sound, merged, slid, split
from trackloom.curves import bent
from trackloom.errors import InvalidDeed, InvalidNumber, Round, Undefined
from trackloom.pacing import Tempo, are_paces
from trackloom.parts import MOST_NOTES, is_note, moved, raised
from trackloom.projects import (
    MOST_CLIPS,
    MOST_INPUTS,
    MOST_NODES,
    are_effects,
    are_whole,
    assembled,
    is_input,
    is_node,
)

# What stands behind the word of each deed.
FORMS = {
    "paces": ("paces",),
    "bars": ("bars",),
    "sound": ("name", "sound"),
    "unsound": ("name",),
    "node": ("node",),
    "unnode": ("name",),
    "note": ("name", "note"),
    "unnote": ("name", "note"),
    "clip": ("name", "clip"),
    "unclip": ("name", "clip"),
    "split": ("name", "clip", "many"),
    "merge": ("name", "clip", "clip"),
    "shift": ("name", "way"),
    "raise": ("name", "rise"),
    "link": ("name", "input"),
    "unlink": ("name", "input"),
    "effects": ("name", "effects"),
    "bend": ("name", "tick", "value"),
    "silent": ("name", "silent"),
}

BOUNDS = {
    "many": (1, 1999),
    "way": (-20000, 20000),
    "rise": (-127, 127),
    "tick": (0, 2000),
    "value": (-1024, 1024),
    "silent": (0, 1),
}


def is_deed(value):
    """Whether any value is a deed, by its form."""
    if not is_row(value, 2, 4) or not isinstance(value[0], str):
        return False
    kinds = FORMS.get(value[0], ())
    return len(value) == len(kinds) + 1 and all([is_of(kind, member) for kind, member in zip(kinds, value[1:])])


def is_of(kind, value):
    """Whether any value is of this kind, one that stands in a form."""
    if kind in BOUNDS:
        low, high = BOUNDS[kind]
        return is_integer(value, low, high)
    if kind == "name":
        return is_name(value)
    if kind == "note":
        return is_note(value)
    if kind == "clip":
        return is_clip(value)
    if kind == "sound":
        return is_sound(value)
    if kind == "node":
        return is_node(value)
    if kind == "input":
        return is_input(value)
    if kind == "effects":
        return are_effects(value)
    return are_paces(value) if kind == "paces" else are_bars(value)


def done(project, deed):
    """The project that the deed makes of this one."""
    if not is_deed(deed):
        raise InvalidDeed(deed)
    made = outcome(project, deed)
    if made is None:
        raise Undefined("void")
    return made


def outcome(project, deed):
    """What done tells of what is known to be a deed, None if it cannot be done."""
    try:
        return project_by(project, deed)
    except (InvalidNumber, Round, Undefined):
        return None


def project_by(project, deed):
    """What done tells of what is known to be a deed; raises some error if it cannot be done."""
    word = deed[0]
    if word == "paces":
        return assembled(Tempo(deed[1]), project.metre, project.pool, project.nodes)
    if word == "bars":
        return assembled(project.tempo, Metre(deed[1]), project.pool, project.nodes)
    if word == "sound":
        return with_pool(project, put_by_name(project.pool, deed[1:], MOST_SOUNDS))
    if word == "unsound":
        return with_pool(project, taken_by_name(project.pool, deed[1]))
    return with_nodes(project, nodes_by(project.nodes, deed))


def with_pool(project, pool):
    """The project with this pool."""
    return assembled(project.tempo, project.metre, pool, project.nodes)


def with_nodes(project, nodes):
    """The project with these nodes, if they are nodes together and in no ring."""
    if not nodes or not are_whole(nodes):
        raise Undefined("void")
    return assembled(project.tempo, project.metre, project.pool, nodes)


def put_by_name(rows, row, most):
    """The rows, ascending by name, with this one in place of one with its name, if they may be so many."""
    changed = [each for each in rows if each[0] != row[0]] + [row]
    if len(changed) > most:
        raise Undefined("void")
    return tuple(sorted(changed))


def taken_by_name(rows, name):
    """The rows without the one of this name."""
    left = tuple([each for each in rows if each[0] != name])
    if len(left) == len(rows):
        raise Undefined("void")
    return left


def nodes_by(nodes, deed):
    """The nodes that the deed makes of these, whether or not they are nodes together."""
    if deed[0] == "node":
        return put_by_name(nodes, deed[1], MOST_NODES)
    others = taken_by_name(nodes, deed[1])
    if deed[0] == "unnode":
        return others
    node = nodes[len([other for other in others if other[0] < deed[1]])]
    change = CHANGES[deed[0]]
    return put_by_name(others, change(node, deed), MOST_NODES)


def row_in(node, word):
    """The notes of the node's tone or its clips, if its source has this word."""
    source = node[1]
    if source is None or source[0] != word:
        raise Undefined("void")
    return source[-1]


def with_row(node, row):
    """The node with these as the notes of its tone, or as its clips."""
    return node[:1] + (node[1][:-1] + (row,),) + node[2:]


def put(row, member, most):
    """The ascending row with this member, too, if it may have so many."""
    if member in row or len(row) >= most:
        raise Undefined("void")
    return tuple(sorted(row + (member,)))


def taken(row, member):
    """The row without this member."""
    if member not in row:
        raise Undefined("void")
    return tuple([other for other in row if other != member])


def with_note(node, deed):
    """The node by "note"."""
    return with_row(node, put(row_in(node, "tone"), deed[2], MOST_NOTES))


def without_note(node, deed):
    """The node by "unnote"."""
    return with_row(node, taken(row_in(node, "tone"), deed[2]))


def with_clip(node, deed):
    """The node by "clip"."""
    return with_row(node, put(row_in(node, "clips"), deed[2], MOST_CLIPS))


def without_clip(node, deed):
    """The node by "unclip"."""
    return with_row(node, taken(row_in(node, "clips"), deed[2]))


def with_halves(node, deed):
    """The node by "split"."""
    left = taken(row_in(node, "clips"), deed[2])
    one, other = split(deed[2], deed[3])
    return with_row(node, put(put(left, one, MOST_CLIPS), other, MOST_CLIPS))


def with_whole(node, deed):
    """The node by "merge"."""
    left = taken(taken(row_in(node, "clips"), deed[2]), deed[3])
    return with_row(node, put(left, merged(deed[2], deed[3]), MOST_CLIPS))


def shifted(node, deed):
    """The node by "shift"."""
    source = node[1]
    if source is None:
        raise Undefined("void")
    if source[0] == "tone":
        return with_row(node, moved(source[2], deed[2]))
    return with_row(node, tuple([slid(clip, deed[2]) for clip in source[1]]))


def lifted(node, deed):
    """The node by "raise"."""
    return with_row(node, raised(row_in(node, "tone"), deed[2]))


def with_input(node, deed):
    """The node by "link"."""
    return node[:3] + (put(node[3], deed[2], MOST_INPUTS),) + node[4:]


def without_input(node, deed):
    """The node by "unlink"."""
    return node[:3] + (taken(node[3], deed[2]),) + node[4:]


def with_effects(node, deed):
    """The node by "effects"."""
    return node[:2] + (deed[2],) + node[3:]


def with_bend(node, deed):
    """The node by "bend"."""
    return node[:4] + (bent(node[4], deed[2], deed[3]),) + node[5:]


def with_silent(node, deed):
    """The node by "silent"."""
    return node[:5] + (deed[2],)


CHANGES = {
    "note": with_note,
    "unnote": without_note,
    "clip": with_clip,
    "unclip": without_clip,
    "split": with_halves,
    "merge": with_whole,
    "shift": shifted,
    "raise": lifted,
    "link": with_input,
    "unlink": without_input,
    "effects": with_effects,
    "bend": with_bend,
    "silent": with_silent,
}
