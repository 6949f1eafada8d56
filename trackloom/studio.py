"""The studio: people who work on copies of one project, hear one another's steps, and keep logs of them."""

from trackloom.checking import check_number, is_ascending, is_name, is_row
from trackloom.copies import Copy
from trackloom.errors import InvalidName
from trackloom.hearing import rendered, values_at
from trackloom.logs import log_of, record_of, recovered


class Seat:
    """What one person of a studio has: a copy, its log, the samples that are watched, and what was told of them.

    Of watches and told the keys are pairs (name, number); told has the value
    that news told last, and none of a sample that was watched since.
    """

    def __init__(self, copy):
        self.copy = copy
        self.log = ()
        self.watches = {}
        self.told = {}


class Studio:
    """People with copies of one project, that change by no calls but these."""

    def __init__(self, project, people):
        if not is_row(people, 1, 4) or not all([is_name(name) for name in people]) or not is_ascending(people):
            raise InvalidName(people)
        self.people = people
        self._project = project
        self._seats = {name: Seat(Copy(name, 0, project)) for name in people}

    def _seat(self, person):
        """The seat of one of the people."""
        if not is_name(person) or person not in self._seats:
            raise InvalidName(person)
        return self._seats[person]

    def copy_steps(self, person):
        """The steps of the person's copy."""
        return self._seat(person).copy.steps

    def copy_project(self, person):
        """The project of the person's copy."""
        return self._seat(person).copy.project

    def copy_log(self, person):
        """The person's log."""
        return self._seat(person).log

    def do(self, person, deed):
        """The person does the deed; the step of it."""
        seat = self._seat(person)
        return noted(seat, seat.copy.do(deed))

    def undo(self, person, stamp):
        """The person undoes the own step with this stamp; the step of this."""
        seat = self._seat(person)
        return noted(seat, seat.copy.undo(stamp))

    def redo(self, person, stamp):
        """The person does the own step with this stamp again; the step of this."""
        seat = self._seat(person)
        return noted(seat, seat.copy.redo(stamp))

    def send(self, person, other):
        """The other hears all that the person knows; the number of the steps that are new to the other."""
        one = self._seat(person)
        seat = self._seat(other)
        known = {stamp: True for stamp, _ in seat.copy.steps}
        news = tuple([step for step in one.copy.steps if step[0] not in known])
        seat.copy.hear(news)
        seat.log = seat.log + log_of(news)
        return len(news)

    def crash(self, person, many):
        """Leaves the person the first bytes, so many, of the log, and what they tell; the number of their steps."""
        seat = self._seat(person)
        check_number(many, 0, len(seat.log))
        steps, used = recovered(seat.log[:many])
        seat.copy = Copy(person, seat.copy.life + 1, self._project)
        seat.copy.hear(steps)
        seat.log = seat.log[:used]
        return len(steps)

    def tidy(self, person):
        """The person's log becomes the one of what the copy knows, in order."""
        seat = self._seat(person)
        seat.log = log_of(seat.copy.steps)

    def hear(self, person, name, first, last):
        """What rendered tells of the person's project."""
        return rendered(self._seat(person).copy.project, name, first, last)

    def watch(self, person, name, number):
        """The person watches this sample of the node of this name."""
        seat = self._seat(person)
        if not is_name(name):
            raise InvalidName(name)
        check_number(number, 0, 599)
        seat.watches[(name, number)] = True
        seat.told.pop((name, number), None)

    def watched(self, person):
        """The triples (name, number, value) of all that the person watches."""
        seat = self._seat(person)
        return values_at(seat.copy.project, sorted(seat.watches))

    def news(self, person):
        """Those of the watched triples that the person was not yet told so."""
        seat = self._seat(person)
        news = []
        for name, number, value in self.watched(person):
            key = (name, number)
            if key not in seat.told or seat.told[key] != value:
                news.append((name, number, value))
                seat.told[key] = value
        return tuple(news)


def noted(seat, step):
    """The step, behind whose record the seat's log ends now."""
    seat.log = seat.log + record_of(step)
    return step
