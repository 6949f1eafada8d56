"""Copies of a project: each person's own, on which everybody's steps come together."""

from trackloom.checking import check_number, is_ascending, is_name
from trackloom.deeds import is_deed, outcome
from trackloom.errors import InvalidDeed, InvalidName, InvalidStamp, Undefined
from trackloom.stepping import LAST_LIFE, TURNS, are_steps, gathered, is_stamp, is_step, sorted_steps, undone


def project_of(project, steps):
    """What comes of the project by the steps."""
    return course_of(project, steps).project


def void_of(project, steps):
    """The stamps of the steps whose deeds cannot be done where they stand."""
    return course_of(project, steps).void


def off_of(project, steps):
    """The stamps of the steps that are off."""
    return course_of(project, steps).off


def course_of(project, steps):
    """The course of the project by the steps."""
    if not are_steps(steps) or not is_ascending([step[0] for step in steps]):
        raise InvalidStamp(steps)
    course = Course(project)
    course.lead(steps)
    return course


class Course:
    """What comes of a project by one step after the other.

    The attributes project, void and off tell it of the steps by which it was
    led last. For each of them places has the stamp, the deed, whether it is
    off, whether it is void, and the project behind it; so, when other steps
    come, nothing is done again up to the first place that changes.
    """

    def __init__(self, project):
        self.first = project
        self.places = []
        self.lead(())

    def lead(self, steps):
        """Goes by these ascending steps."""
        off = undone(steps)
        self.places = self.places[:self.alike(steps, off)]
        for stamp, deed in steps[len(self.places):]:
            self.places.append(self.next_place(stamp, deed, stamp in off))
        self.project = self.behind_all()
        self.void = tuple([place[0] for place in self.places if place[3]])
        self.off = tuple([place[0] for place in self.places if place[2]])

    def alike(self, steps, off):
        """How many places, from the first on, stay as they are."""
        many = 0
        for place, (stamp, deed) in zip(self.places, steps):
            if place[:3] != (stamp, deed, stamp in off):
                break
            many = many + 1
        return many

    def next_place(self, stamp, deed, is_off):
        """The place of this step, behind all others."""
        before = self.behind_all()
        if is_off or deed[0] in TURNS:
            return stamp, deed, is_off, False, before
        after = outcome(before, deed)
        if after is None:
            return stamp, deed, False, True, before
        return stamp, deed, False, False, after

    def behind_all(self):
        """The project behind the last place."""
        return self.places[-1][4] if self.places else self.first


class Copy:
    """One person's copy of a project: what it knows of everybody's steps, and what comes of them."""

    def __init__(self, person, life, project):
        if not is_name(person):
            raise InvalidName(person)
        check_number(life, 0, LAST_LIFE)
        self.person = person
        self.life = life
        self._deeds = {}
        self._course = Course(project)
        self._know({})

    def _know(self, deeds):
        """Knows just these deeds, a dict by their stamps."""
        self._deeds = deeds
        self.steps = sorted_steps(deeds)
        self._course.lead(self.steps)
        self.project = self._course.project
        self.void = self._course.void
        self.off = self._course.off

    def do(self, deed):
        """Does the deed; the step of it."""
        if not is_deed(deed):
            raise InvalidDeed(deed)
        return self._go_on(deed)

    def _go_on(self, deed):
        """Knows the step of a deed of its own; this step."""
        clock = self.steps[-1][0][0] if self.steps else 0
        step = ((clock + 1, self.person, self.life), deed)
        self._know(gathered(self._deeds, (step,)))
        return step

    def undo(self, stamp):
        """Undoes the step of its person with this stamp; the step of this."""
        if not self._is_own(stamp) or stamp in self.off:
            raise InvalidStamp(stamp)
        return self._go_on(("undo", stamp))

    def redo(self, stamp):
        """Does the step of its person with this stamp, that was undone, again; the step of this."""
        if not self._is_own(stamp) or stamp not in self.off:
            raise InvalidStamp(stamp)
        return self._go_on(("redo", stamp))

    def _is_own(self, stamp):
        """Whether any value is the stamp of a step of its person that can be undone or done again."""
        return (
            is_stamp(stamp)
            and stamp in self._deeds
            and stamp[1] == self.person
            and self._deeds[stamp][0] not in TURNS
        )

    def hear(self, steps):
        """Knows these steps, too; the number of those that it did not know."""
        if not isinstance(steps, tuple) or not all([is_step(step) for step in steps]):
            raise InvalidStamp(steps)
        deeds = gathered(self._deeds, steps)
        if deeds is None:
            raise InvalidStamp(steps)
        many = len(deeds) - len(self._deeds)
        self._know(deeds)
        return many

    def back(self):
        """Undoes the last step of its person that is not off; the step of this."""
        stamps = [stamp for stamp, _ in self.steps if self._is_own(stamp) and stamp not in self.off]
        if not stamps:
            raise Undefined("undo")
        return self.undo(stamps[-1])
