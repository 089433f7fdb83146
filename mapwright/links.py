"""What hangs together by links, told by a dict: for each that there is a list of those that it is linked to."""


def all_linked(links):
    """Dicts of those that hang together, in the order of the first ones."""
    seen = {}
    told = []
    for start in links:
        if start not in seen:
            found = linked(links, start)
            seen.update(found)
            told.append(found)
    return told


def linked(links, start):
    """A dict of all that hang together with one."""
    found = {start: True}
    ahead = [start]
    while ahead:
        here = ahead.pop()
        for other in links[here]:
            if other not in found:
                found[other] = True
                ahead.append(other)
    return found
