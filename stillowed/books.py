"""Books of courses."""

from stillowed.errors import InvalidBook
from stillowed.kinds import is_integer, is_lot, is_name, is_number_to

MOST_COURSES = 8
MOST_STAGES = 20
MOST_STAGES_TOGETHER = 60
MOST_DEEDS = 12


class Book:
    """A tuple of courses (name, stages, ends, steps); the first one is the main course."""

    def __init__(self, courses):
        if not isinstance(courses, tuple):
            raise InvalidBook(-1)
        check_each(courses)
        check_together(courses)
        self.courses = courses
        self._places = {course[0]: at for at, course in enumerate(courses)}
        self._stages = tuple(sorted([(course[0], number) for course in courses for number in range(course[1])]))
        self._ends = {(course[0], number): True for course in courses for number in course[2]}
        self._leaving = leaving_of(courses)

    def __eq__(self, other):
        return isinstance(other, Book) and self.courses == other.courses

    def names(self):
        """The names of the courses in their order."""
        return tuple([course[0] for course in self.courses])

    def main(self):
        """The name of the main course."""
        return self.courses[0][0]

    def index_of(self, name):
        """The index of the course of this name, None for any other value."""
        if not isinstance(name, str):
            return None
        return self._places.get(name)

    def ends(self, course):
        """The numbers of the stages where a course may end."""
        return self.courses[self._places[course]][2]

    def steps(self, course):
        """The steps of a course."""
        return self.courses[self._places[course]][3]

    def steps_from(self, stage):
        """The ascending numbers of the steps that leave a stage."""
        return self._leaving[stage]

    def is_end(self, stage):
        """Whether the course of a stage may end there."""
        return stage in self._ends

    def is_stage(self, value):
        """Whether any value is a stage of the book."""
        if not isinstance(value, tuple) or len(value) != 2 or not is_integer(value[1]):
            return False
        place = self.index_of(value[0])
        return place is not None and 0 <= value[1] < self.courses[place][1]

    def stages(self):
        """All stages, ascending."""
        return self._stages

    def calls(self):
        """The pairs of a course and a course that it calls, ascending."""
        pairs = {(course[0], step[2]): True for course in self.courses for step in course[3] if step[1] == "call"}
        return tuple(sorted(pairs))

    def deeds(self):
        """The deeds of all steps, ascending."""
        return tuple(sorted(deeds_in(self.courses)))


def check_each(courses):
    """Raise InvalidBook for the first course that is wrong in itself, twice there, or too many."""
    earlier = {}
    for at, course in enumerate(courses):
        if at >= MOST_COURSES or not is_course(course) or course[0] in earlier:
            raise InvalidBook(at)
        earlier[course[0]] = True
    if not courses:
        raise InvalidBook(0)


def check_together(courses):
    """Raise InvalidBook for the first course that does not go with the others."""
    names = {course[0]: True for course in courses}
    stages = 0
    deeds = {}
    for at, course in enumerate(courses):
        stages += course[1]
        deeds.update(deeds_in((course,)))
        called = [step[2] for step in course[3] if step[1] == "call"]
        if not all([name in names for name in called]):
            raise InvalidBook(at)
        if stages > MOST_STAGES_TOGETHER or len(deeds) > MOST_DEEDS:
            raise InvalidBook(at)


def is_course(value):
    """Whether any value has the form of a course, wherever its calls lead."""
    if not isinstance(value, tuple) or len(value) != 4:
        return False
    name, stages, ends, steps = value
    if not is_name(name) or not is_number_to(stages, MOST_STAGES) or stages == 0:
        return False
    return are_ends(ends, stages) and are_steps(steps, stages)


def are_ends(ends, stages):
    """Whether any value is a lot of numbers of stages."""
    if not isinstance(ends, tuple):
        return False
    return all([is_number_to(number, stages - 1) for number in ends]) and is_lot(ends)


def are_steps(steps, stages):
    """Whether any value is a tuple of unlike steps of a course with so many stages."""
    if not isinstance(steps, tuple) or not all([is_step(step, stages) for step in steps]):
        return False
    return len({step: True for step in steps}) == len(steps)


def is_step(value, stages):
    """Whether any value is a step of a course with so many stages."""
    if not isinstance(value, tuple) or len(value) != 4:
        return False
    number, kind, name, onto = value
    if not is_number_to(number, stages - 1) or not is_number_to(onto, stages - 1):
        return False
    return isinstance(kind, str) and kind in ("do", "call") and is_name(name)


def deeds_in(courses):
    """A dict whose keys are the deeds of the courses."""
    return {step[2]: True for course in courses for step in course[3] if step[1] == "do"}


def leaving_of(courses):
    """For each stage the ascending numbers of the steps that leave it."""
    found = {(course[0], number): [] for course in courses for number in range(course[1])}
    for course in courses:
        for k, step in enumerate(course[3]):
            found[(course[0], step[0])].append(k)
    return {stage: tuple(found[stage]) for stage in found}
