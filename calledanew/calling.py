"""Starts and events of a part."""

from calledanew.bounds import MOST_CALLS, USUAL_CALLS, check_bound
from calledanew.courses import Course, course_from
from calledanew.errors import InvalidEvent, InvalidStanding, InvalidStart
from calledanew.runs import call_and_follow, do_event
from calledanew.standings import is_event, is_standing
from calledanew.values import are_words


class Step:
    """What a start or event has done: the standings around it and what happened between them.

    `event` and `before` are None for a start.
    """

    def __init__(self, event, before, course):
        self.event = event
        self.before = before
        self.after = course.state()
        self.shown = course.shown
        self.said = tuple([item[2] for item in course.trace if item[0] == "say"])
        self.trace = tuple(course.trace)
        self.calls = course.count
        self.done = course.rows_done()


def begin(part, rule, words, *, most=USUAL_CALLS):
    """Start the part with these words of its inputs and return the Step."""
    check_bound(most, MOST_CALLS)
    check_start(part, words)
    course = Course(part, rule, most, words)
    call_and_follow(course)
    return Step(None, None, course)


def check_start(part, words):
    """Refuse a value that is no tuple with a word for each input."""
    many = len(part.inputs)
    if not are_words(words, part.words, many, many):
        raise InvalidStart(words)


def step(part, rule, standing, event, *, most=USUAL_CALLS):
    """Do an event from the standing and return the Step."""
    check_bound(most, MOST_CALLS)
    if not is_standing(part, standing):
        raise InvalidStanding()
    if not is_event(part, event):
        raise InvalidEvent(event)
    return step_from(part, rule, standing, event, most)


def step_from(part, rule, standing, event, most):
    """Do the same with arguments that are known to be right."""
    course = course_from(part, rule, most, standing)
    do_event(course, event)
    return Step(event, standing, course)
