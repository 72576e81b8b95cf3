"""The fewest places to which each way of some editions of a web comes.

They are told by ways of as many of the editions as can be there: in each of
these ways one place is such that no change of the ways leads beyond it.
"""


def next_places(web, place):
    """Return the list of the places to which a way can go on from a place ahead of the last moment."""
    moment, office = place
    x, y, sure = web.rows[moment]
    found = [] if sure and office == x else [(moment + 1, office)]
    return found + [(moment + 1, x)] if office == y else found


def places_ahead(ways):
    """Return a dict from all places of some ways to the place ahead of each, None for the first ones."""
    found = {}
    for way in ways:
        places = list(enumerate(way))
        found[places[0]] = None
        for ahead, place in zip(places, places[1:]):
            found[place] = ahead
    return found


def further_places(web, ahead, coming, place):
    """Return where a new way can be led, as pairs like (coming, place): from a place that it comes to, or leaves.

    ahead are the places of other ways. At one of these a new way can only be
    led back, to leave the place ahead of it elsewhere than the way that is
    there; a place of them that is left need no longer be on its way.
    """
    if not coming:
        found = [(True, following) for following in next_places(web, place)]
        return found + [(True, place)] if place in ahead else found
    if place not in ahead:
        return [(False, place)]
    return [] if ahead[place] is None else [(False, ahead[place])]


def fewest_places(web, lot, ways):
    """Return the ascending tuple of the fewest places to which each way of an edition of a lot comes.

    ways are ways, no two at one place, of some editions of the lot, as many as
    can be there. So no new way that is led on from the lot comes to the last
    moment, and where it can come to, but not leave, each other way must pass.
    """
    ahead = places_ahead(ways)
    queue = [(True, (0, edition)) for edition in lot]
    seen = {}
    while queue:
        coming, place = queue.pop()
        if (coming, place) not in seen:
            seen[(coming, place)] = True
            queue.extend(further_places(web, ahead, coming, place))
    return tuple(sorted([place for coming, place in seen if coming and (False, place) not in seen]))
