"""Places on a circle: distances, what lies between, and what is met first."""

from ringlaps.errors import OffCircle


def far(size, start, end):
    """Return the number of steps up from start to end; a whole turn if they are equal."""
    # One step is taken off and put back, so that no way at all comes out as a whole turn.
    return (end - start - 1) % size + 1


def between(size, start, place, end):
    """Return whether the place lies between start and end."""
    # This leaves out both ends: start is a whole turn away from itself, end as far as itself.
    return far(size, start, place) < far(size, start, end)


def covers(size, start, place, end):
    """Return whether the step from start to end covers the place."""
    return far(size, start, place) <= far(size, start, end)


def places_from(size, start, places):
    """Return the places as they are met going up from start, which comes first itself."""
    return sorted(places, key=lambda place: (place - start) % size)


def inside(size, start, end, places):
    """Return the places that lie between start and end, as they are met going up."""
    return [place for place in places_from(size, start, places) if between(size, start, place, end)]


def nearest_ahead(size, start, places):
    """Return the place that is met first going up from start, or None if there is none."""
    return min(places, key=lambda place: far(size, start, place), default=None)


def nearest_behind(size, end, places):
    """Return the place from which end is met soonest going up, or None if there is none."""
    return min(places, key=lambda place: far(size, place, end), default=None)


def check_on_circle(size, place):
    """Raise OffCircle if the place is not one of the places of the circle."""
    if place < 0 or place >= size:
        raise OffCircle(place)
