"""Areas: the parts of the table between the arms, told by their spaces at the edge."""

from handshakes.arrangements import is_arrangement
from handshakes.errors import NoPlace


def next_space(arrangement, space):
    """The space of the same area that comes next round the table."""
    # Behind the space the area's edge follows the next person's arm to its other end.
    return arrangement[(space + 1) % len(arrangement)]


def area_of(arrangement, place):
    """The area with that space, the tuple of its spaces."""
    if not 0 <= place < len(arrangement):
        raise NoPlace(place)
    spaces = [place]
    space = next_space(arrangement, place)
    while space != place:
        spaces.append(space)
        space = next_space(arrangement, space)
    return tuple(sorted(spaces))


def areas(arrangement):
    """The ascending list of the areas."""
    found = []
    for place in range(len(arrangement)):
        area = area_of(arrangement, place)
        if area[0] == place:
            found.append(area)
    return found


def partners_between(people, told):
    """The partners, if each area's ascending spaces follow one another round the table."""
    partners = [0] * people
    for area in told:
        for at, space in enumerate(area):
            # area[-1], the last space, comes before the first one.
            partners[(area[at - 1] + 1) % people] = space
    return tuple(partners)


def by_areas(people, some):
    """The ARRANGEMENT of so many people with exactly these areas, None if there is none."""
    told = sorted([tuple(sorted(area)) for area in some])
    if sorted([space for area in told for space in area]) != list(range(people)):
        return None
    partners = partners_between(people, told)
    if not is_arrangement(partners) or areas(partners) != told:
        return None
    return partners
