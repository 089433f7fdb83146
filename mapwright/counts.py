"""How many values there are at the places of a net that go together.

What binds places together is told by tables, one for each head, which are put together and folded up place by place.
Where they would become too long, the count is the sum of those for each thing at one place. Places that come apart
thereby are counted apart, and what is counted once is known from then on.

A bundle is what hangs together: a tuple (marks, masks, tables), marks being its places with their masks, which alone
tell it apart from others, and tables those of its heads.
"""

from mapwright.links import all_linked
from mapwright.masks import bit_count, is_open, members
from mapwright.nets import narrow
from mapwright.tables import even_weight, greatest_room, total

MOST_ROOM = 5000


class Counter:
    """Counts in a net, with what is known of bundles."""

    def __init__(self, net):
        self.net = net
        self.known = {}

    def many(self, masks, places):
        """How many values there are at some places that go together, there being one each at all others."""
        whole = self.parted(masks, places)
        ahead = [(bundle, None) for bundle in whole[1]]
        while ahead:
            top = ahead.pop()
            bundle = top[0]
            shares = top[1]
            if bundle[0] in self.known:
                continue
            if shares is None:
                shares = self.shares_of(bundle)
            lacking = []
            for factor, bundles in shares:
                lacking.extend([(more, None) for more in bundles if more[0] not in self.known])
            if lacking:
                # It comes again when all is known that it is put together of.
                ahead.append((bundle, shares))
                ahead.extend(lacking)
            else:
                self.known[bundle[0]] = sum([self.share_count(share) for share in shares])
        return self.share_count(whole)

    def share_count(self, share):
        """The count of a share: a factor and bundles that are known."""
        count = share[0]
        for bundle in share[1]:
            count *= self.known[bundle[0]]
        return count

    def parted(self, masks, places):
        """A share: a factor for what binds nothing, and the bundles in which some places hang together."""
        sizes = open_sizes(self.net, masks, places)
        factor = 1
        tables = {}
        for head in heads_of(self.net, sizes):
            table = head_table(self.net, masks, head)
            weight = even_weight(table, sizes)
            if weight:
                factor *= weight
            else:
                tables[head] = table
        links = links_by(tables)
        for place in sizes:
            if place not in links and self.net.above[place]:
                factor *= sizes[place]
        return (factor, bundles_of(masks, tables, links))

    def shares_of(self, bundle):
        """The shares of which the count of a bundle is the sum."""
        places = [place for place, mask in bundle[0]]
        sizes = open_sizes(self.net, bundle[1], places)
        tables = list(bundle[2].values())
        if greatest_room([table[0] for table in tables], sizes) <= MOST_ROOM:
            return [(total(tables, sizes), [])]
        links = links_by(bundle[2])
        place = max([some for some in places if some not in bundle[2]], key=lambda some: len(links[some]))
        shares = []
        for thing in members(bundle[1][place]):
            fresh = list(bundle[1])
            fresh[place] = 1 << thing
            if not narrow(self.net, fresh, [place], []):
                shares.append(self.parted(fresh, places))
        return shares


def open_sizes(net, masks, places):
    """For each of the places at which more than one thing is left how many are."""
    sizes = {}
    for place in places:
        if is_open(masks[place]):
            sizes[place] = bit_count(masks[place], net.halves)
    return sizes


def heads_of(net, places):
    """Those of the places that are below no other one."""
    return [place for place in places if not net.above[place]]


def head_table(net, masks, head):
    """The table of what a head can lead the open places below it to, each row weighed by how often."""
    below = [link for link in net.below[head] if is_open(masks[link[0]])]
    if not below:
        return ((), {(): bit_count(masks[head], net.halves)})
    rows = {}
    for thing in members(masks[head]):
        row = tuple([net.acts[way][thing] for place, way in below])
        rows[row] = rows.get(row, 0) + 1
    return (tuple([place for place, way in below]), rows)


def links_by(tables):
    """For each head of the tables the places that its table has, and for each of these the heads."""
    links = {}
    for head, table in tables.items():
        links[head] = list(table[0])
        for place in table[0]:
            links.setdefault(place, []).append(head)
    return links


def bundles_of(masks, tables, links):
    """The bundles in which the places of tables hang together."""
    told = []
    for found in all_linked(links):
        marks = tuple([(place, masks[place]) for place in sorted(found)])
        told.append((marks, masks, part_of(tables, found)))
    return told


def part_of(tables, found):
    """Those of the tables whose heads were found."""
    part = {}
    for head, table in tables.items():
        if head in found:
            part[head] = table
    return part
