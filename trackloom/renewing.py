"""Renders anew what a change of a project reaches, and keeps the rest."""

from trackloom.checking import check_number, is_ascending, is_row
from trackloom.errors import InvalidKept, InvalidName
from trackloom.playing import Player
from trackloom.projects import followed, heard_by, names_of
from trackloom.rendering import are_kept


def changed(before, after):
    """The names of the nodes of the project after that are made otherwise than in the one before."""
    if before.paces != after.paces:
        return tuple(names_of(after.nodes))
    sounds = changed_sounds(before.pool, after.pool)
    return tuple([
        node[0]
        for node in after.nodes
        if node not in before.nodes or any([name in sounds for name in sounds_in(node)])
    ])


def changed_sounds(before, after):
    """The names for which the pools have unlike sounds, or just one of them has one."""
    return [name for name, sound in before + after if (name, sound) not in before or (name, sound) not in after]


def sounds_in(node):
    """The names of the sounds that the clips of the node read."""
    source = node[1]
    if source is None or source[0] != "clips":
        return []
    return [clip[0] for clip in source[1]]


def reached(project, names):
    """The names, and those of all nodes that hear, by whatever way, one of theirs."""
    if not are_names(project, names):
        raise InvalidName(names)
    links = {name: [] for name in names_of(project.nodes)}
    for node in project.nodes:
        for name in heard_by(node):
            links[name].append(node[0])
    return tuple(sorted(followed(links, names)))


def are_names(project, value):
    """Whether any value is an ascending tuple of names of nodes of the project."""
    names = names_of(project.nodes)
    return (
        is_row(value, 0, len(names))
        and all([member in names for member in value])
        and is_ascending(value)
    )


def renewed(before, after, kept, many):
    """The rows of all nodes of the project after, and the names of those that had to be rendered anew."""
    check_number(many, 0, 600)
    if not are_kept(before, kept, many) or len(kept) != len(before.nodes):
        raise InvalidKept(kept)
    names = reached(after, changed(before, after))
    rows = {name: samples for name, samples in kept if name not in names}
    player = Player(after, after.order, rows)
    player.play(many)
    return tuple([(name, tuple(player.outs[name])) for name in names_of(after.nodes)]), names
