"""[40] and [41] The studio; and what the document promises over the whole program."""

import random
import unittest

from tests.helpers import ODD, PROJECT, TEMPO, is_plain, nested, refused
from tests.histories import TURNS, led, log_of, record_of, same, some_deed
from tests.meaning import Meaning, some_project
from tests.steps import NO_STAMPS, NOTES, ONE
from trackloom.barring import Metre
from trackloom.copies import project_of
from trackloom.errors import InvalidDeed, InvalidName, InvalidNumber, InvalidStamp, StudioError
from trackloom.hearing import rendered, sample_at
from trackloom.logs import recovered
from trackloom.making import makers, things, without
from trackloom.packing import packed, unpacked
from trackloom.projects import Project
from trackloom.rendering import Renderer, rendered_by, some_order
from trackloom.renewing import changed, reached, renewed
from trackloom.spelling import part_of, spelled
from trackloom.studio import Studio
from trackloom.writing import read, written

PEOPLE = ("ann", "bob", "cid", "dora")
# A short sound on "lead", and a clip that the "beat" hears at once.
LOUD = ("note", "lead", (0, 5, 60, 127))
CLIP = ("clip", "beat", ("drum", 0, 5, 0, (1, 1), 256, (0, 0), (0, 0)))


def views(studio):
    """All that can be asked of a studio without a change."""
    return [(person, studio.copy_steps(person), studio.copy_log(person), studio.watched(person), studio.copy_project(person).nodes,
             studio.copy_project(person).pool, studio.copy_project(person).paces, studio.copy_project(person).bars)
            for person in studio.people]


class Words:
    """A studio by the words of the document, told without any care for speed."""

    def __init__(self, project, people):
        self.project = project
        self.people = people
        self.known = {name: {} for name in people}
        self.lives = {name: 0 for name in people}
        self.logs = {name: () for name in people}
        self.watches = {name: set() for name in people}
        self.fresh = {name: set() for name in people}
        self.told = {name: {} for name in people}

    def steps(self, person):
        return tuple(sorted(self.known[person].items(), key=lambda step: step[0]))

    def go_on(self, person, deed):
        clock = max([0] + [stamp[0] for stamp in self.known[person]]) + 1
        stamp = (clock, person, self.lives[person])
        self.known[person][stamp] = deed
        self.logs[person] += record_of((stamp, deed))
        return stamp, deed

    def send(self, person, other):
        new = [step for step in self.steps(person) if step[0] not in self.known[other]]
        self.known[other].update(new)
        self.logs[other] += log_of(new)
        return len(new)

    def crash(self, person, many):
        steps, _ = recovered(self.logs[person][:many])
        self.lives[person] += 1
        self.known[person] = dict(steps)
        self.logs[person] = log_of(steps)
        return len(steps)

    def tidy(self, person):
        self.logs[person] = log_of(self.steps(person))

    def watch(self, person, name, number):
        self.watches[person].add((name, number))
        self.fresh[person].add((name, number))

    def watched(self, person):
        project = led(self.project, self.steps(person))[0]
        meaning = Meaning(project)
        return tuple(sorted((name, number, meaning.out(name, number) if name in meaning.nodes else None)
                            for name, number in self.watches[person]))

    def news(self, person):
        triples = tuple(triple for triple in self.watched(person)
                        if triple[:2] in self.fresh[person] or self.told[person][triple[:2]] != triple[2])
        self.fresh[person] = set()
        self.told[person].update({triple[:2]: triple[2] for triple in triples})
        return triples


class ByHand(unittest.TestCase):
    def test_a_deed_that_cannot_be_done_is_a_step_too(self):
        studio = Studio(ONE, ("ann",))
        self.assertEqual(studio.do("ann", ("unnode", "lead")), ((1, "ann", 0), ("unnode", "lead")))
        self.assertTrue(same(studio.copy_project("ann"), ONE))

    def test_new_ones(self):
        studio = Studio(ONE, ("ann", "bob"))
        self.assertEqual(studio.people, ("ann", "bob"))
        for person in studio.people:
            self.assertEqual(studio.copy_steps(person), ())
            self.assertEqual(studio.copy_log(person), ())
            self.assertTrue(same(studio.copy_project(person), ONE))
            self.assertEqual(studio.watched(person), ())
            self.assertEqual(studio.news(person), ())
        for people in (("a",), ("a", "b", "c", "d"), PEOPLE):
            self.assertEqual(Studio(project=ONE, people=people).people, people)
        self.assertEqual(studio, studio)
        self.assertNotEqual(studio, Studio(ONE, ("ann", "bob")))
        for function in (iter, list):
            with self.assertRaises(TypeError):
                function(studio)

    def test_deeds_and_logs(self):
        studio = Studio(ONE, ("ann", "bob"))
        one = studio.do("ann", NOTES[0])
        self.assertEqual(one, ((1, "ann", 0), NOTES[0]))
        two = studio.do(person="ann", deed=("unnode", "nobody"))
        self.assertEqual(two, ((2, "ann", 0), ("unnode", "nobody")))
        three = studio.undo("ann", (1, "ann", 0))
        self.assertEqual(three, ((3, "ann", 0), ("undo", (1, "ann", 0))))
        four = studio.redo(person="ann", stamp=(1, "ann", 0))
        self.assertEqual(four, ((4, "ann", 0), ("redo", (1, "ann", 0))))
        self.assertEqual(studio.copy_steps("ann"), (one, two, three, four))
        self.assertEqual(studio.copy_log(person="ann"), log_of((one, two, three, four)))
        self.assertEqual(studio.copy_log("bob"), ())
        self.assertTrue(same(studio.copy_project("ann"), project_of(ONE, (one,))))
        self.assertTrue(same(studio.copy_project(person="bob"), ONE))

    def test_send(self):
        studio = Studio(ONE, ("ann", "bob"))
        one, two = studio.do("ann", NOTES[0]), studio.do("ann", NOTES[1])
        three = studio.do("bob", NOTES[2])
        self.assertEqual(studio.send("ann", "bob"), 2)
        self.assertEqual(studio.copy_steps("bob"), (one, three, two))
        self.assertEqual(studio.copy_log("bob"), log_of((three, one, two)))
        self.assertEqual(studio.send(person="ann", other="bob"), 0)
        self.assertEqual(studio.do("bob", NOTES[3])[0], (3, "bob", 0))
        self.assertEqual(studio.send("bob", "ann"), 2)
        self.assertEqual(studio.copy_log("ann"), log_of((one, two, three, ((3, "bob", 0), NOTES[3]))))
        self.assertEqual(studio.send("bob", "bob"), 0)
        self.assertTrue(same(studio.copy_project("ann"), studio.copy_project("bob")))

    def test_news_of_others_go_behind_the_log_by_their_stamps(self):
        studio = Studio(ONE, ("ann", "bob", "cid"))
        for k, person in enumerate(("ann", "bob", "ann", "bob")):
            studio.do(person, NOTES[k])
        studio.send("ann", "cid")
        studio.send("bob", "cid")
        self.assertEqual([step[0] for step in recovered(studio.copy_log("cid"))[0]],
                         [(1, "ann", 0), (2, "ann", 0), (1, "bob", 0), (2, "bob", 0)])
        self.assertIsNone(studio.tidy("cid"))
        self.assertEqual([step[0] for step in recovered(studio.copy_log("cid"))[0]],
                         [(1, "ann", 0), (1, "bob", 0), (2, "ann", 0), (2, "bob", 0)])
        self.assertIsNone(studio.tidy(person="bob"))
        studio.send("cid", "ann")
        self.assertEqual([step[0] for step in recovered(studio.copy_log("ann"))[0]],
                         [(1, "ann", 0), (2, "ann", 0), (1, "bob", 0), (2, "bob", 0)])

    def test_crashes(self):
        studio = Studio(ONE, ("ann", "bob"))
        steps = [studio.do("ann", NOTES[k]) for k in range(3)]
        ends = [len(log_of(steps[:many])) for many in range(4)]
        self.assertEqual(studio.crash("ann", ends[3]), 3)
        self.assertEqual(studio.copy_steps("ann"), tuple(steps))
        self.assertEqual(studio.crash(person="ann", many=ends[2] + 5), 2)
        self.assertEqual(studio.copy_steps("ann"), tuple(steps[:2]))
        self.assertEqual(studio.copy_log("ann"), log_of(steps[:2]))
        self.assertTrue(same(studio.copy_project("ann"), project_of(ONE, tuple(steps[:2]))))
        # Two crashes: this is the third life.
        more = studio.do("ann", NOTES[5])
        self.assertEqual(more[0], (3, "ann", 2))
        self.assertEqual(studio.undo("ann", (1, "ann", 0))[0], (4, "ann", 2))
        self.assertEqual(studio.crash("ann", 0), 0)
        self.assertEqual((studio.copy_steps("ann"), studio.copy_log("ann")), ((), ()))
        self.assertTrue(same(studio.copy_project("ann"), ONE))
        self.assertEqual(studio.do("ann", NOTES[6])[0], (1, "ann", 3))
        self.assertEqual(studio.crash("ann", len(studio.copy_log("ann")) - 1), 0)
        self.assertEqual(studio.do("ann", NOTES[6])[0], (1, "ann", 4))

    def test_what_was_lost_is_told_by_others(self):
        studio = Studio(ONE, ("ann", "bob"))
        one, two = studio.do("ann", NOTES[0]), studio.do("ann", NOTES[1])
        studio.send("ann", "bob")
        studio.crash("ann", len(record_of(one)) + 1)
        three = studio.do("ann", NOTES[2])
        self.assertEqual(three[0], (2, "ann", 1))
        self.assertEqual(studio.send("bob", "ann"), 1)
        self.assertEqual(studio.copy_steps("ann"), (one, two, three))
        self.assertEqual(studio.copy_log("ann"), log_of((one, three, two)))
        self.assertEqual(studio.undo("ann", two[0])[0], (3, "ann", 1))

    def test_hear(self):
        studio = Studio(ONE, ("ann", "bob"))
        studio.do("ann", LOUD)
        made = project_of(ONE, studio.copy_steps("ann"))
        self.assertEqual(studio.hear("ann", "lead", 3, 40), rendered(made, "lead", 3, 40))
        self.assertEqual(studio.hear(person="bob", name="lead", first=0, last=9), (0,) * 9)
        self.assertTrue(any(studio.hear("ann", "lead", 0, 600)))

    def test_watching(self):
        studio = Studio(ONE, ("ann", "bob"))
        studio.do("ann", CLIP)
        self.assertEqual(studio.news("ann"), ())
        self.assertIsNone(studio.watch("ann", "beat", 1))
        self.assertIsNone(studio.watch(person="ann", name="beat", number=0))
        self.assertIsNone(studio.watch("ann", "zz", 599))
        expected = (("beat", 0, 1000), ("beat", 1, -2000), ("zz", 599, None))
        self.assertEqual(studio.watched("ann"), expected)
        self.assertEqual(studio.watched(person="bob"), ())
        self.assertEqual(studio.news("ann"), expected)
        self.assertEqual(studio.news(person="ann"), ())
        self.assertEqual(studio.watched("ann"), expected)
        # A change that some of them hear, one that none hears, and one that is undone ahead of the news.
        studio.do("ann", ("clip", "beat", ("drum", 1, 1, 0, (1, 1), 256, (0, 0), (0, 0))))
        self.assertEqual(studio.news("ann"), (("beat", 1, -1000),))
        studio.do("ann", ("bars", ((0, 3),)))
        studio.do("ann", ("silent", "lead", 1))
        self.assertEqual(studio.news("ann"), ())
        step = studio.do("ann", ("silent", "beat", 1))
        studio.undo("ann", step[0])
        self.assertEqual(studio.news("ann"), ())
        studio.redo("ann", step[0])
        self.assertEqual(studio.watched("ann"), (("beat", 0, 0), ("beat", 1, 0), ("zz", 599, None)))
        self.assertEqual(studio.news("ann"), (("beat", 0, 0), ("beat", 1, 0)))

    def test_nodes_that_come_and_go(self):
        studio = Studio(ONE, ("ann",))
        studio.watch("ann", "zz", 0)
        studio.watch("ann", "beat", 0)
        self.assertEqual(studio.news("ann"), (("beat", 0, 0), ("zz", 0, None)))
        come = studio.do("ann", ("node", ("zz", ("clips", (CLIP[2],)), (), (), ((0, 256),), 0)))
        self.assertEqual(studio.news("ann"), (("zz", 0, 1000),))
        studio.do("ann", ("unnode", "beat"))
        self.assertEqual(studio.news("ann"), (("beat", 0, None),))
        studio.undo("ann", come[0])
        self.assertEqual(studio.news("ann"), (("zz", 0, None),))
        self.assertEqual(studio.news("ann"), ())

    def test_watched_twice_and_again(self):
        studio = Studio(ONE, ("ann",))
        studio.watch("ann", "beat", 0)
        studio.watch("ann", "beat", 0)
        self.assertEqual(studio.watched("ann"), (("beat", 0, 0),))
        self.assertEqual(studio.news("ann"), (("beat", 0, 0),))
        self.assertEqual(studio.news("ann"), ())
        studio.watch("ann", "beat", 0)
        self.assertEqual(studio.watched("ann"), (("beat", 0, 0),))
        self.assertEqual(studio.news("ann"), (("beat", 0, 0),))
        self.assertEqual(studio.news("ann"), ())
        studio.watch("ann", "zz", 0)
        self.assertEqual(studio.news("ann"), (("zz", 0, None),))
        studio.watch("ann", "zz", 0)
        self.assertEqual(studio.news("ann"), (("zz", 0, None),))

    def test_watched_over_a_crash(self):
        studio = Studio(ONE, ("ann", "bob"))
        studio.do("ann", CLIP)
        studio.watch("ann", "beat", 0)
        studio.watch("bob", "beat", 0)
        self.assertEqual(studio.news("ann"), (("beat", 0, 1000),))
        studio.send("ann", "bob")
        studio.crash("ann", len(studio.copy_log("ann")))
        self.assertEqual(studio.news("ann"), ())
        studio.watch("ann", "beat", 1)
        studio.crash("ann", 0)
        self.assertEqual(studio.watched("ann"), (("beat", 0, 0), ("beat", 1, 0)))
        self.assertEqual(studio.news("ann"), (("beat", 0, 0), ("beat", 1, 0)))
        studio.send("bob", "ann")
        self.assertEqual(studio.news("ann"), (("beat", 0, 1000), ("beat", 1, -2000)))
        self.assertEqual(studio.news("bob"), (("beat", 0, 1000),))

    def test_what_is_watched_of_a_ring_of_late_inputs(self):
        studio = Studio(ONE, ("ann",))
        studio.do("ann", CLIP)
        studio.do("ann", ("link", "lead", ("beat", 128, "late")))
        for number in (0, 1, 2, 3, 599):
            studio.watch("ann", "lead", number)
            studio.watch("ann", "beat", number)
        rows = dict(Meaning(studio.copy_project("ann")).rows(600))
        self.assertEqual(studio.watched("ann"), tuple((name, number, rows[name][number])
                                                      for name in ("beat", "lead") for number in (0, 1, 2, 3, 599)))

    def test_two_studios_do_not_disturb_one_another(self):
        one, other = Studio(ONE, ("ann", "bob")), Studio(ONE, ("ann", "bob"))
        kept = views(other)
        one.do("ann", LOUD)
        one.watch("ann", "lead", 5)
        one.send("ann", "bob")
        one.news("ann")
        one.crash("bob", 4)
        self.assertEqual(views(other), kept)
        self.assertEqual(other.do("ann", LOUD)[0], (1, "ann", 0))
        self.assertEqual(other.do("bob", LOUD)[0], (1, "bob", 0))
        self.assertEqual(len(one.copy_steps("ann")), 1)


class Refused(unittest.TestCase):
    def setUp(self):
        self.studio = Studio(ONE, ("ann", "bob"))
        self.studio.do("ann", LOUD)
        self.studio.undo("ann", (1, "ann", 0))
        self.studio.do("bob", NOTES[3])
        self.studio.watch("ann", "lead", 5)
        self.studio.news("ann")
        self.studio.watch("ann", "beat", 5)

    def refuses(self, error, argument, word, *arguments):
        kept = views(self.studio)
        refused(self, error, argument, getattr(self.studio, word), *arguments)
        self.assertEqual(views(self.studio), kept)

    def tearDown(self):
        self.assertEqual(self.studio.news("ann"), (("beat", 5, 0),))

    def test_peoples(self):
        for people in ODD + (
            (), ("a", "b", "c", "d", "e"), ("b", "a"), ("a", "a"), ["a"], ("",), ("A",), ("abcdefghi",), ("a", 1), (None,), (("a",),), "a", "ab", ("a", "b", "b"),
            (["a"],), (TEMPO,),
        ):
            refused(self, InvalidName, people, Studio, ONE, people)

    def test_persons(self):
        for person in ODD + ("cid", "", "Ann", "ann ", 0, ("ann",), ["ann"], PROJECT, self.studio):
            for word in ("copy_steps", "copy_project", "copy_log", "tidy", "watched", "news"):
                self.refuses(InvalidName, person, word, person)
            for word in ("do", "undo", "redo", "crash"):
                self.refuses(InvalidName, person, word, person, None)
            self.refuses(InvalidName, person, "send", person, None)
            self.refuses(InvalidName, person, "send", "bob", person)
            self.refuses(InvalidName, person, "hear", person, None, None, None)
            self.refuses(InvalidName, person, "watch", person, None, None)

    def test_deeds_and_stamps(self):
        for value in ODD + (("undo", (1, "ann", 0)), ("redo", (1, "ann", 0)), (), list(LOUD), LOUD + (0,)):
            self.refuses(InvalidDeed, value, "do", "ann", value)
        for value in NO_STAMPS + ((1, "ann", 0), (2, "ann", 0), (1, "bob", 0), (9, "ann", 0)):
            self.refuses(InvalidStamp, value, "undo", "ann", value)
        for value in NO_STAMPS + ((2, "ann", 0), (1, "bob", 0), (9, "ann", 0)):
            self.refuses(InvalidStamp, value, "redo", "ann", value)
        self.refuses(InvalidStamp, stamp := (1, "ann", 0), "undo", "bob", stamp)

    def test_crashes(self):
        many = len(self.studio.copy_log("bob"))
        for value in ODD + (-1, many + 1, 10 ** 11, str(many), (many,)):
            self.refuses(InvalidNumber, value, "crash", "bob", value)
        self.assertEqual(self.studio.crash("bob", many), 1)

    def test_what_is_heard(self):
        for value in ODD + ("zz", "", 0, ("lead",), PROJECT):
            self.refuses(InvalidName, value, "hear", "ann", value, None, None)
        for value in ODD + (-1, 1000, "0"):
            self.refuses(InvalidNumber, value, "hear", "ann", "lead", value, None)
            if value != 1000:
                self.refuses(InvalidNumber, value, "hear", "ann", "lead", 400, value)
        self.refuses(InvalidNumber, 601, "hear", "ann", "lead", 0, 601)
        self.refuses(InvalidNumber, 1001, "hear", "ann", "lead", 401, 1001)
        self.refuses(InvalidNumber, 4, "hear", "ann", "lead", 5, 4)

    def test_what_is_watched(self):
        for value in ODD + ("Lead", "", "abcdefghi", 0, ("lead",), PROJECT, nested(tuple, 3)):
            if value in ("flat", "ramp", "saw"):
                continue
            self.refuses(InvalidName, value, "watch", "ann", value, None)
        for value in ODD + (-1, 600, "0", 10 ** 11):
            self.refuses(InvalidNumber, value, "watch", "ann", "lead", value)
        other = Studio(ONE, ("ann",))
        other.watch("ann", "lead", 0)
        other.watch("ann", "lead", 599)
        self.assertEqual(len(other.watched("ann")), 2)


class Drawn(unittest.TestCase):
    def one_call(self, source, studio, words):
        """One call on both: they tell the same, and what is refused changes nothing."""
        person, other = source.choice(studio.people), source.choice(studio.people)
        kind = source.randrange(16)
        if kind < 5:
            deed = some_deed(source, studio.copy_project(person))
            self.assertEqual(studio.do(person, deed), words.go_on(person, deed))
        elif kind < 8:
            self.turn(source, studio, words, person)
        elif kind < 11:
            self.assertEqual(studio.send(person, other), words.send(person, other))
        elif kind == 11:
            size = len(studio.copy_log(person))
            many = source.choice((0, size, source.randrange(size + 1), max(size - 9, 0)))
            self.assertEqual(studio.crash(person, many), words.crash(person, many))
        elif kind == 12:
            self.assertIsNone(studio.tidy(person))
            words.tidy(person)
        elif kind < 15:
            names = [node[0] for node in words.project.nodes] + ["new", "zz"]
            name, number = source.choice(names), source.choice((0, 1, 7, 20, 45))
            self.assertIsNone(studio.watch(person, name, number))
            words.watch(person, name, number)
        else:
            self.assertEqual(studio.news(person), words.news(person))

    def turn(self, source, studio, words, person):
        steps = studio.copy_steps(person)
        own = [stamp for stamp, deed in steps if stamp[1] == person and deed[0] not in TURNS]
        stamp = source.choice(own) if own and source.randrange(5) else (1, source.choice(PEOPLE), 0)
        off = led(words.project, steps)[2]
        word = source.choice(TURNS)
        if stamp in own and (stamp in off) == (word == "redo"):
            self.assertEqual(getattr(studio, word)(person, stamp), words.go_on(person, (word, stamp)))
        else:
            refused(self, InvalidStamp, stamp, getattr(studio, word), person, stamp)

    def agrees(self, studio, words):
        for person in studio.people:
            self.assertEqual(studio.copy_steps(person), words.steps(person))
            self.assertEqual(studio.copy_log(person), words.logs[person])
            self.assertEqual(studio.watched(person), words.watched(person))
            self.assertTrue(same(studio.copy_project(person), led(words.project, words.steps(person))[0]))
            self.assertTrue(is_plain(studio.copy_steps(person)) and is_plain(studio.copy_log(person)) and is_plain(studio.watched(person)))

    def test_rows_of_calls(self):
        source = random.Random(401)
        for many in (1, 2, 3, 4) * 4:
            project = some_project(source, source.choice((2, 4)))
            studio, words = Studio(project, PEOPLE[:many]), Words(project, PEOPLE[:many])
            for number in range(60):
                self.one_call(source, studio, words)
                if number % 6 == 5:
                    self.agrees(studio, words)

    def test_no_stamp_comes_twice(self):
        source = random.Random(402)
        for _ in range(10):
            studio = Studio(ONE, ("ann", "bob"))
            given = []
            for number in range(50):
                person = source.choice(studio.people)
                kind = source.randrange(6)
                if kind < 3:
                    given.append(studio.do(person, source.choice(NOTES))[0])
                elif kind == 3:
                    studio.send("ann", "bob")
                elif kind == 4:
                    studio.send("bob", "ann")
                else:
                    studio.crash(person, source.randrange(len(studio.copy_log(person)) + 1))
            self.assertEqual(len(given), len(set(given)))

    def test_refused_calls_change_nothing(self):
        source = random.Random(403)
        studio = Studio(some_project(source, 3), ("ann", "bob"))
        for _ in range(40):
            kept = views(studio)
            word = source.choice(("do", "undo", "redo", "send", "crash", "tidy", "hear", "watch", "news"))
            wrong = {"do": ("ann", ("undo", (1, "ann", 0))), "undo": ("ann", (99, "ann", 0)), "redo": ("ann", (99, "ann", 0)), "send": ("ann", "zoe"),
                     "crash": ("ann", 10 ** 6), "tidy": ("zoe",), "hear": ("ann", "zz", 0, 1), "watch": ("ann", "zz", 600), "news": ("zoe",)}[word]
            with self.assertRaises(StudioError):
                getattr(studio, word)(*wrong)
            self.assertEqual(views(studio), kept)
            studio.do(source.choice(("ann", "bob")), some_deed(source, studio.copy_project("ann")))


class WholeProgram(unittest.TestCase):
    def history(self, source):
        """A studio behind a row of calls, all of whose people know the same."""
        studio = Studio(some_project(source, source.choice((2, 3, 5))), ("ann", "bob"))
        for _ in range(30):
            person = source.choice(studio.people)
            studio.do(person, some_deed(source, studio.copy_project(person)))
            own = [stamp for stamp, deed in studio.copy_steps(person) if stamp[1] == person and deed[0] not in TURNS]
            kind = source.randrange(8)
            if kind == 0:
                try:
                    studio.undo(person, source.choice(own))
                except InvalidStamp:
                    pass
            elif kind == 1:
                studio.send(*source.choice((("ann", "bob"), ("bob", "ann"))))
            elif kind == 2:
                studio.crash(person, source.randrange(len(studio.copy_log(person)) + 1))
        studio.send("ann", "bob")
        studio.send("bob", "ann")
        return studio

    def test_all_ways_of_rendering_tell_the_same(self):
        source = random.Random(411)
        for _ in range(12):
            studio = self.history(source)
            one, other = (studio.copy_project(person) for person in studio.people)
            self.assertTrue(same(one, other))
            many = 60
            right = Meaning(one).rows(many)
            renderer = Renderer(one)
            mark = renderer.mark()
            pieces = [renderer.next(25), renderer.next(35)]
            self.assertEqual(tuple((name, first + dict(pieces[1])[name]) for name, first in pieces[0]), right)
            renderer.back(mark)
            self.assertEqual(renderer.next(many), right)
            kept = tuple(pair for pair in right if source.randrange(2))
            for name, samples in right:
                self.assertEqual(rendered(one, name, 0, many), samples)
                self.assertEqual(studio.hear("bob", name, 0, many), samples)
                self.assertEqual(rendered_by(one, some_order(one), (20, 40), kept, name), samples)
                self.assertEqual(sample_at(one, name, many - 1), samples[-1])

    def test_there_and_back_changes_nothing(self):
        source = random.Random(412)
        metre = Metre(((0, 4), (1, 3)))
        for _ in range(12):
            project = self.history(source).copy_project("ann")
            pool = tuple((name, unpacked(packed(sound, 0))) for name, sound in project.pool)
            nodes = tuple(read(written(node)) for node in project.nodes)
            nodes = tuple(node[:1] + (node[1][:2] + (part_of(spelled(node[1][2], metre), metre),),) + node[2:]
                          if node[1] is not None and node[1][0] == "tone" else node for node in nodes)
            again = Project(project.paces, project.bars, pool, nodes)
            self.assertTrue(same(again, project))
            for name, samples in Meaning(project).rows(30):
                self.assertEqual(rendered(again, name, 0, 30), samples)

    def test_rows_renewed_behind_each_deed(self):
        source = random.Random(413)
        for _ in range(6):
            studio = Studio(some_project(source, 4), ("ann",))
            before, many = studio.copy_project("ann"), 40
            rows = Meaning(before).rows(many)
            for _ in range(25):
                studio.do("ann", some_deed(source, before))
                after = studio.copy_project("ann")
                rows, names = renewed(before, after, rows, many)
                self.assertEqual(rows, Meaning(after).rows(many))
                self.assertEqual(names, reached(after, changed(before, after)))
                before = after

    def test_what_is_no_maker_can_be_taken_out(self):
        source = random.Random(414)
        taken = 0
        for _ in range(25):
            studio = self.history(source)
            project = studio.copy_project("ann")
            name, number = source.choice(project.nodes)[0], source.choice((0, 3, 20, 40))
            studio.watch("ann", name, number)
            studio.news("ann")
            spare = [thing for thing in things(project) if thing not in makers(project, name, number)]
            value = sample_at(project, name, number)
            for node, word, thing in source.sample(spare, min(len(spare), 6)):
                studio.do("ann", ("un" + word, node, thing))
                self.assertEqual(studio.news("ann"), ())
                taken += 1
            self.assertEqual(studio.watched("ann"), ((name, number, value),))
            self.assertEqual(sample_at(without(project, tuple(sorted(spare))), name, number), value)
        self.assertGreater(taken, 20)

    def test_news_are_of_what_is_reached(self):
        source = random.Random(415)
        for _ in range(8):
            studio = Studio(some_project(source, 4), ("ann",))
            for node in studio.copy_project("ann").nodes:
                for number in (0, 9, 30):
                    studio.watch("ann", node[0], number)
            before = studio.copy_project("ann")
            told = {triple[:2]: triple[2] for triple in studio.news("ann")}
            for _ in range(25):
                studio.do("ann", some_deed(source, before))
                after = studio.copy_project("ann")
                fine = reached(after, changed(before, after))
                for name, number, value in studio.news("ann"):
                    if value is not None and told[name, number] is not None:
                        self.assertIn(name, fine)
                    told[name, number] = value
                before = after

    def test_a_studio_of_60_calls(self):
        source = random.Random(416)
        studio = Studio(some_project(source, 6), PEOPLE)
        for number in range(60):
            person = PEOPLE[number % 4]
            kind = number // 4 % 5
            if kind < 2:
                studio.do(person, some_deed(source, studio.copy_project(person)))
            elif kind == 2:
                studio.send(person, PEOPLE[(number + 1) % 4])
            elif kind == 3:
                studio.watch(person, studio.copy_project(person).nodes[0][0], 599)
            else:
                studio.news(person)
        for person in PEOPLE:
            self.assertEqual(len(studio.watched(person)), 1)


if __name__ == "__main__":
    unittest.main()
