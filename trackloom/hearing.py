"""What the nodes of a project sound like: the meaning of each sample."""

from trackloom.checking import check_number
from trackloom.playing import played_out, played_rows
from trackloom.projects import names_of, node_of


def sample_at(project, name, number):
    """The sample with this number of the node of this name."""
    node_of(project, name)
    check_number(number, 0, 999)
    return beginning_of(project, name, number + 1)[number]


def rendered(project, name, first, last):
    """The samples from first up to, and without, last of the node of this name."""
    node_of(project, name)
    check_number(first, 0, 999)
    check_number(last, first, min(first + 600, 1000))
    return beginning_of(project, name, last)[first:]


def beginning_of(project, name, many):
    """The first samples, so many, of the node of this name."""
    return played_out(project, project.order, {}, name, many)


def values_at(project, pairs):
    """For each of the pairs (name, number) the triple with its sample, None where no node has the name."""
    names = names_of(project.nodes)
    heard = [pair for pair in pairs if pair[0] in names]
    many = max([0] + [number + 1 for _, number in heard])
    rows = played_rows(project, project.order, {}, [name for name, _ in heard], many)
    return tuple([(name, number, rows[name][number] if name in names else None) for name, number in pairs])
