"""The interface: each name stands in its file, with its arguments."""

import ast
import unittest
from pathlib import Path

PACKAGE = Path(__file__).parent.parent / "trackloom"

FUNCTIONS = {
    "pacing": ("pace_at(tempo, tick)", "sample_of(tempo, tick)", "tick_of(tempo, sample)"),
    "barring": ("place_of(metre, tick)", "tick_at(metre, place)"),
    "parts": (
        "is_part(value)", "sounding(part, tick)", "moved(part, many)", "raised(part, many)", "joined(one, other)",
        "cut(part, first, last)", "repeated(part, length, many)", "snapped(part, grid)",
    ),
    "curves": ("value_at(curve, tick)", "bent(curve, tick, value)", "straight(curve)"),
    "tones": (
        "step_of(tuning, pitch)", "even_tuning()", "is_tone(value)", "tone_at(tone, pitch, force, held, age)",
        "played(tone, part, tempo, sample)", "voiced(tone, part, tempo, sample)",
    ),
    "clips": (
        "is_pool(value)", "is_clip(value)", "clip_at(pool, clip, sample)", "split(clip, many)", "merged(one, other)",
        "slid(clip, many)",
    ),
    "effects": (
        "is_effect(value)", "heard(effect, samples)", "delay_of(effect)", "fresh(effect)",
        "pushed(effect, state, samples)", "span_of(effect)",
    ),
    "projects": ("is_node(value)", "node_of(project, name)", "arrival(project, name)"),
    "hearing": ("sample_at(project, name, number)", "rendered(project, name, first, last)"),
    "rendering": (
        "is_order(project, value)", "some_order(project)", "rendered_by(project, order, blocks, kept, name)",
    ),
    "renewing": ("changed(before, after)", "reached(project, names)", "renewed(before, after, kept, many)"),
    "making": ("things(project)", "without(project, some)", "makers(project, name, number)"),
    "metering": ("meter(samples)", "together(one, other)", "loudest(samples, many)"),
    "shaping": (
        "turned(sound)", "drawn(sound, up, down)", "mixed(one, other, at)", "blended(one, other, many)",
        "scaled(sound, top)", "quiet(sound, top)",
    ),
    "packing": (
        "check_of(row)", "packed(sound, slack)", "unpacked(stream)", "slack_of(stream)", "frame_at(stream, number)",
        "damaged(stream)", "patched(stream)", "spliced(one, other)",
    ),
    "writing": ("written(value)", "read(text)"),
    "spelling": ("spelled(part, metre)", "part_of(text, metre)"),
    "deeds": ("is_deed(value)", "done(project, deed)"),
    "copies": ("project_of(project, steps)", "void_of(project, steps)", "off_of(project, steps)"),
    "logs": ("logged(steps)", "recovered(row)", "tidied(steps)"),
}

METHODS = {
    "pacing": ("Tempo.__init__(self, paces)", "Tempo.__eq__(self, other)"),
    "barring": ("Metre.__init__(self, bars)", "Metre.__eq__(self, other)"),
    "projects": ("Project.__init__(self, paces, bars, pool, nodes)", "Project.__eq__(self, other)"),
    "rendering": (
        "Renderer.__init__(self, project)", "Renderer.next(self, many)", "Renderer.mark(self)", "Renderer.back(self, mark)",
    ),
    "copies": (
        "Copy.__init__(self, person, life, project)", "Copy.do(self, deed)", "Copy.undo(self, stamp)", "Copy.redo(self, stamp)",
        "Copy.hear(self, steps)", "Copy.back(self)",
    ),
    "studio": (
        "Studio.__init__(self, project, people)", "Studio.copy_steps(self, person)", "Studio.copy_project(self, person)",
        "Studio.copy_log(self, person)", "Studio.do(self, person, deed)", "Studio.undo(self, person, stamp)",
        "Studio.redo(self, person, stamp)", "Studio.send(self, person, other)", "Studio.crash(self, person, many)",
        "Studio.tidy(self, person)", "Studio.hear(self, person, name, first, last)", "Studio.watch(self, person, name, number)",
        "Studio.watched(self, person)", "Studio.news(self, person)",
    ),
}

ERRORS = (
    "InvalidNumber", "InvalidName", "InvalidPaces", "InvalidBars", "InvalidPlace", "InvalidPart", "InvalidCurve",
    "InvalidTuning", "InvalidTone", "InvalidPool", "InvalidClip", "InvalidEffect", "InvalidSamples", "InvalidNodes",
    "InvalidOrder", "InvalidBlocks", "InvalidKept", "InvalidMark", "InvalidBytes", "InvalidText", "InvalidValue",
    "InvalidDeed", "InvalidStamp", "Round", "Undefined",
)


def heads(module):
    """What the file defines: its functions, and the methods of its classes, as Name.method, with parameters."""
    found = []
    for row in ast.parse((PACKAGE / f"{module}.py").read_text()).body:
        if isinstance(row, ast.FunctionDef):
            found.append(f"{row.name}({ast.unparse(row.args)})")
        if isinstance(row, ast.ClassDef):
            found.append(f"class {row.name}({', '.join(map(ast.unparse, row.bases))})")
            found += [f"{row.name}.{one.name}({ast.unparse(one.args)})" for one in row.body
                      if isinstance(one, ast.FunctionDef)]
    return found


class Interface(unittest.TestCase):
    def test_functions_and_methods_stand_in_their_files(self):
        for listing in (FUNCTIONS, METHODS):
            for module, names in listing.items():
                found = heads(module)
                for name in names:
                    self.assertIn(name, found)

    def test_errors_stand_in_their_file(self):
        found = heads("errors")
        self.assertIn("class StudioError(ValueError)", found)
        for name in ERRORS:
            argument = {"Round": "names", "Undefined": "what"}.get(name, "value")
            self.assertIn(f"class {name}(StudioError)", found)
            self.assertIn(f"{name}.__init__(self, {argument})", found)


if __name__ == "__main__":
    unittest.main()
