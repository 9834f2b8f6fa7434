"""Sets of points: arcs told and grown, meeting sets told and thinned."""

from evenmeet.counts import marks_of
from evenmeet.errors import NoArc, NoMeeting


def arc_told(M, points):
    marks = marks_of(M[0], points)
    for number, block in enumerate(M[1]):
        inside = marked_of(block, marks)
        if len(inside) > 2:
            return ("three", number, inside[0], inside[1], inside[2])
    return ("arc",)


def grown_arc(M, points):
    told = arc_told(M, points)
    if told[0] == "three":
        raise NoArc(told[1])
    marks = marks_of(M[0], points)
    for point in range(M[0]):
        if not marks[point] and two_beside(M, marks, point) is None:
            marks[point] = True
    # What was left out stays out: the two that it had beside it are still in the arc.
    shown = [two_beside(M, marks, point) for point in range(M[0]) if not marks[point]]
    return (all_marked(marks), shown)


def two_beside(M, marks, point):
    for number, block in enumerate(M[1]):
        if point in block:
            inside = marked_of(block, marks)
            if len(inside) > 1:
                return (point, number, inside[0], inside[1])
    return None


def meeting_told(M, points):
    marks = marks_of(M[0], points)
    for number, block in enumerate(M[1]):
        if len(marked_of(block, marks)) == 0:
            return ("missed", number)
    return ("meets",)


def thinned_set(M, points):
    told = meeting_told(M, points)
    if told[0] == "missed":
        raise NoMeeting(told[1])
    marks = marks_of(M[0], points)
    for point in range(M[0]):
        if marks[point] and block_alone(M, marks, point) is None:
            marks[point] = False
    # What was kept stays needed: its block has no other one, and fewer are left now.
    kept = all_marked(marks)
    return (kept, [(point, block_alone(M, marks, point)) for point in kept])


def block_alone(M, marks, point):
    for number, block in enumerate(M[1]):
        if marked_of(block, marks) == [point]:
            return number
    return None


def marked_of(points, marks):
    return [point for point in points if marks[point]]


def all_marked(marks):
    return [point for point, mark in enumerate(marks) if mark]
