"""Segments: the stretches of a session's history."""

from limitrun.ordinals import compare, subtract


class Segment:
    """A run that begins at a time of a session; it is never changed."""

    def __init__(self, begin, first, tower, reason):
        self.begin = begin
        self.first = first
        self.tower = tower
        self.reason = reason

    def reach(self, time):
        """Return the state at a time of the session, from the segment's beginning on."""
        return self.tower.state_at(self.first, subtract(time, self.begin))


def segment_at(segments, time):
    """Return the segment to which a time belongs, of a list whose first one begins at 0."""
    begun = [segment for segment in segments if compare(segment.begin, time) <= 0]
    return begun[-1]


def with_segment(segments, segment):
    """Return the list of the segments when another one begins, not before the last one."""
    last = segments[-1]
    if last.begin != segment.begin:
        return segments + [segment]
    joined = Segment(segment.begin, segment.first, segment.tower, f"{last.reason}; {segment.reason}")
    return segments[:-1] + [joined]
