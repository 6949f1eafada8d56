"""What the document says of deeds and steps, told again without any care for speed; and deeds made at random."""

from tests.meaning import some_effect, some_node
from tests.streams import check_bit_by_bit, in_bytes
from trackloom.clips import merged, slid, split
from trackloom.curves import bent
from trackloom.errors import StudioError
from trackloom.parts import moved, raised
from trackloom.projects import Project

TURNS = ("undo", "redo")


class Void(Exception):
    """Tells that a deed cannot be done."""


def asked(condition):
    if not condition:
        raise Void


def put(row, member):
    asked(member not in row)
    return tuple(sorted(row + (member,)))


def taken(row, member):
    asked(member in row)
    return tuple(other for other in row if other != member)


def put_source(node, word, change):
    """Changes the notes or clips of a node, a list."""
    asked(node[1] is not None and node[1][0] == word)
    node[1] = node[1][:-1] + (change(node[1][-1]),)


def change_node(node, deed):
    """Changes a node, a list, as the deed says."""
    word, _, *more = deed
    if word == "note":
        put_source(node, "tone", lambda part: put(part, more[0]))
    elif word == "unnote":
        put_source(node, "tone", lambda part: taken(part, more[0]))
    elif word == "clip":
        put_source(node, "clips", lambda clips: put(clips, more[0]))
    elif word == "unclip":
        put_source(node, "clips", lambda clips: taken(clips, more[0]))
    elif word == "split":
        one, other = split(more[0], more[1])
        put_source(node, "clips", lambda clips: put(put(taken(clips, more[0]), one), other))
    elif word == "merge":
        whole = merged(more[0], more[1])
        put_source(node, "clips", lambda clips: put(taken(taken(clips, more[0]), more[1]), whole))
    elif word == "shift":
        asked(node[1] is not None)
        if node[1][0] == "tone":
            put_source(node, "tone", lambda part: moved(part, more[0]))
        else:
            put_source(node, "clips", lambda clips: tuple(slid(clip, more[0]) for clip in clips))
    elif word == "raise":
        put_source(node, "tone", lambda part: raised(part, more[0]))
    elif word == "link":
        node[3] = put(node[3], more[0])
    elif word == "unlink":
        node[3] = taken(node[3], more[0])
    elif word == "effects":
        node[2] = more[0]
    elif word == "bend":
        node[4] = bent(node[4], more[0], more[1])
    elif word == "silent":
        node[5] = more[0]
    else:
        raise AssertionError(deed)


def done_by_the_words(project, deed):
    """The project that the deed makes, None if it cannot be done: it is made, and checked, as a whole."""
    word = deed[0]
    paces, bars, pool = project.paces, project.bars, dict(project.pool)
    nodes = {node[0]: list(node) for node in project.nodes}
    try:
        if word == "paces":
            paces = deed[1]
        elif word == "bars":
            bars = deed[1]
        elif word == "sound":
            pool[deed[1]] = deed[2]
        elif word == "node":
            nodes[deed[1][0]] = list(deed[1])
        elif word == "unsound":
            asked(deed[1] in pool)
            del pool[deed[1]]
        else:
            asked(deed[1] in nodes)
            if word == "unnode":
                del nodes[deed[1]]
            else:
                change_node(nodes[deed[1]], deed)
        return Project(paces, bars, tuple(sorted(pool.items())), tuple(tuple(nodes[name]) for name in sorted(nodes)))
    except (Void, StudioError):
        return None


def led(project, steps):
    """The project, the void and the off of some ascending steps, by the words of the document."""
    deeds = dict(steps)
    aims = {}
    for stamp, deed in sorted(deeds.items(), key=lambda step: step[0]):
        if deed[0] in TURNS:
            inner = deed[1]
            if inner in deeds and deeds[inner][0] not in TURNS and inner[1] == stamp[1] and inner[0] < stamp[0]:
                aims.setdefault(inner, []).append((stamp, deed[0]))
    off = tuple(sorted(inner for inner, turns in aims.items() if max(turns)[1] == "undo"))
    void = []
    for stamp, deed in steps:
        if deed[0] not in TURNS and stamp not in off:
            after = done_by_the_words(project, deed)
            if after is None:
                void.append(stamp)
            else:
                project = after
    return project, tuple(void), off


def same(one, other):
    """Whether two projects are the same in all attributes, also those of their time."""
    return (one == other and one.paces == other.paces and one.bars == other.bars and one.pool == other.pool
            and one.nodes == other.nodes and one.tempo == other.tempo and one.metre == other.metre
            and one.tempo.paces == one.paces and one.metre.bars == one.bars)


def some_note(source):
    return (source.randrange(12), source.randrange(1, 6), source.randrange(30, 110), source.choice((20, 127)))


def some_clip(source):
    return (source.choice(("drum", "hum", "none")), source.randrange(60), source.randrange(1, 90), source.randrange(-5, 9),
            (source.choice((-1, 1, 2)), source.choice((1, 2))), source.choice((-1024, 256, 1024)), (0, 0), (0, 0))


def members(project, name, word):
    """The notes or clips of the node of this name, if it has some."""
    for node in project.nodes:
        if node[0] == name and node[1] is not None and node[1][0] == word:
            return node[1][-1]
    return ()


def chosen(source, row, other):
    """One of the row, if it has one, or now and then the other one."""
    return source.choice(row) if row and source.randrange(5) else other


def neighbours(clips):
    return [(one, other) for one in clips for other in clips if one[0] == other[0] and one[1] + one[2] == other[1]]


def some_deed(source, project):
    """A deed of any kind; most of them can be done on the project."""
    names = [node[0] for node in project.nodes]
    word = source.choice(("paces", "bars", "sound", "unsound", "node", "unnode", "note", "note", "unnote", "clip", "clip", "unclip",
                          "split", "split", "merge", "merge", "shift", "raise", "link", "link", "unlink", "effects", "bend", "silent"))
    asks = {"note": "tone", "unnote": "tone", "raise": "tone", "clip": "clips", "unclip": "clips", "split": "clips", "merge": "clips"}
    fitting = [node[0] for node in project.nodes if word in asks and node[1] is not None and node[1][0] == asks[word]]
    name = chosen(source, fitting, chosen(source, names, "zz"))
    notes, clips = members(project, name, "tone"), members(project, name, "clips")
    inputs = [each for node in project.nodes if node[0] == name for each in node[3]]
    clip = chosen(source, clips, some_clip(source))
    pair = chosen(source, neighbours(clips), (clip, some_clip(source)))
    return {
        "paces": lambda: ("paces", source.choice((((0, 10, "flat"),), ((0, 7, "ramp"), (9, 3, "flat"))))),
        "bars": lambda: ("bars", ((0, source.randrange(1, 16)),)),
        "sound": lambda: ("sound", source.choice(("drum", "hum", "none")), tuple(source.randrange(-999, 999) for _ in range(6))),
        "unsound": lambda: ("unsound", source.choice(("drum", "hum", "none"))),
        "node": lambda: ("node", some_node(source, source.choice(names + ["new", "more"]), names, names)),
        "unnode": lambda: ("unnode", name),
        "note": lambda: ("note", name, some_note(source)),
        "unnote": lambda: ("unnote", name, chosen(source, notes, some_note(source))),
        "clip": lambda: ("clip", name, some_clip(source)),
        "unclip": lambda: ("unclip", name, clip),
        "split": lambda: ("split", name, clip, source.randrange(1, 90)),
        "merge": lambda: ("merge", name, pair[0], pair[1]),
        "shift": lambda: ("shift", name, source.choice((-3, 1, 5, 3000))),
        "raise": lambda: ("raise", name, source.choice((-12, 1, 12, 100))),
        "link": lambda: ("link", name, (source.choice(names + ["zz"]), source.choice((-256, 100, 256)), source.choice(("now", "late")))),
        "unlink": lambda: ("unlink", name, chosen(source, inputs, ("zz", 1, "now"))),
        "effects": lambda: ("effects", name, tuple(some_effect(source) for _ in range(source.randrange(4)))),
        "bend": lambda: ("bend", name, source.randrange(20), source.choice((-1024, 0, 256))),
        "silent": lambda: ("silent", name, source.randrange(2)),
    }[word]()


def some_steps(source, project, many):
    """Ascending steps of two people and two lives, with undos and redos, most of them of steps that they can aim at."""
    stamps = sorted({(source.randrange(1, 2 * many + 1), source.choice(("ann", "bob")), source.randrange(2)) for _ in range(many)})
    steps = []
    for stamp in stamps:
        own = [other for other, deed in steps if other[1] == stamp[1] and deed[0] not in TURNS]
        odd = (source.randrange(1, 30), source.choice(("ann", "bob")), source.randrange(2))
        if source.randrange(5) < 2:
            deed = (source.choice(TURNS), chosen(source, own, source.choice(stamps + [odd])))
        else:
            deed = some_deed(source, project)
            project = done_by_the_words(project, deed) or project
        steps.append((stamp, deed))
    return tuple(steps)


def text_of(value):
    """The writing of a step."""
    if value is None:
        return "none"
    if isinstance(value, tuple):
        return "(" + ", ".join(map(text_of, value)) + ")"
    return f'"{value}"' if isinstance(value, str) else str(value)


def record_of_text(text):
    row = in_bytes(len(text), 3) + tuple(text.encode("ascii"))
    return row + in_bytes(check_bit_by_bit(row), 2)


def record_of(step):
    return record_of_text(text_of(step))


def log_of(steps):
    return sum(map(record_of, steps), ())
