"""Renders projects: in any order that is let, with rows that are kept, in pieces."""

from trackloom.checking import are_integers, check_number, is_ascending, is_integer, is_name, is_row
from trackloom.effects import BOUND
from trackloom.errors import InvalidBlocks, InvalidKept, InvalidMark, InvalidOrder
from trackloom.playing import Player, played_out
from trackloom.projects import heard_now, names_of, node_of


def is_order(project, value):
    """Whether any value is an order of the project."""
    names = names_of(project.nodes)
    return (
        is_row(value, len(names), len(names))
        and all([is_name(member) for member in value])
        and sorted(value) == names
        and all([
            value.index(other) < value.index(node[0])
            for node in project.nodes
            for other in heard_now(node)
        ])
    )


def some_order(project):
    """Some order of the project."""
    return project.order


def are_blocks(value):
    """Whether any value is blocks."""
    return are_integers(value, 0, 600, 1, 600) and sum(value) <= 600


def are_kept(project, value, many):
    """Whether any value is kept rows of the project, of so many samples each."""
    names = names_of(project.nodes)
    return (
        is_row(value, 0, len(names))
        and all([is_kept(names, pair, many) for pair in value])
        and is_ascending([pair[0] for pair in value])
    )


def is_kept(names, value, many):
    """Whether any value is the pair of one of the names and of so many samples."""
    return (
        is_row(value, 2, 2)
        and value[0] in names
        and are_integers(value[1], many, many, -BOUND, BOUND)
    )


def rendered_by(project, order, blocks, kept, name):
    """The first samples of the node of this name, as many as blocks are together, with these rows kept.

    Blocks and order change nothing of the samples, so blocks matter by their
    sum alone.
    """
    if not is_order(project, order):
        raise InvalidOrder(order)
    if not are_blocks(blocks):
        raise InvalidBlocks(blocks)
    many = sum(blocks)
    if not are_kept(project, kept, many):
        raise InvalidKept(kept)
    node_of(project, name)
    return played_out(project, order, dict(kept), name, many)


class Renderer:
    """Renders all nodes of a project, one stretch behind the other.

    Whatever the way, a sample is the same, so the samples that are known stay
    when it goes back, and a mark is just the number of the next sample.
    """

    def __init__(self, project):
        self.project = project
        self.at = 0
        self._marks = ()
        self._player = Player(project, project.order, {})

    def next(self, many):
        """The pairs (name, samples) of all nodes, the next so many samples."""
        check_number(many, 1, min(600, 1000 - self.at))
        first = self.at
        last = first + many
        # To go on twice as far as is known makes many short calls take little more time than a long one.
        self._player.play(max(last, min(2 * self._player.at, 1000)))
        self.at = last
        return tuple([(name, tuple(self._player.outs[name][first:last])) for name in names_of(self.project.nodes)])

    def mark(self):
        """Marks where the renderer is; the number of the mark."""
        self._marks = self._marks + (self.at,)
        return len(self._marks) - 1

    def back(self, mark):
        """Goes back, or on, to where the mark was made."""
        if not is_integer(mark, 0, len(self._marks) - 1):
            raise InvalidMark(mark)
        self.at = self._marks[mark]
