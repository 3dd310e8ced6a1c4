"""Greatest prices of loads with so many writes.

The layer of a number of writes has the greatest price for each stand to begin with. Adding some number to all of a
layer adds it to all of the next one. So once a layer is a former one but for such a number, it all goes on as it went
on from there, and no further layer is kept.
"""

from spareblocks.prices import price_links
from spareblocks.reaching import count_living


class Layers:
    """Layers from 0 writes on; from the index again on they repeat, each time greater by rise."""

    def __init__(self, first):
        self.kept = [first]
        self.again = None
        self.rise = 0


def find_layer(links, order, before):
    """The layer behind another one; the order has each stand behind those that its trims lead to."""
    layer = list(before)
    for number in order:
        layer[number] = max([price + (before[after] if writes else layer[after])
                             for after, price, writes in links[number]])
    return layer


def shape_of(web, layer):
    """What is left of a layer if all is measured by the start; grounds that are no stands do not count."""
    return tuple([layer[number] - layer[0] for number in web.reached])


def find_layers(web, most, copies, erasures):
    """The layers up to so many writes, as far as they must be kept."""
    links = price_links(web, copies, erasures)
    order = sorted(web.reached, key=lambda number: count_living(web.stands[number]))
    layers = Layers([0] * len(links))
    met = {shape_of(web, layers.kept[0]): 0}
    while len(layers.kept) <= most and layers.again is None:
        layer = find_layer(links, order, layers.kept[-1])
        shape = shape_of(web, layer)
        if shape in met:
            layers.again = met[shape]
            layers.rise = layer[0] - layers.kept[layers.again][0]
        else:
            met[shape] = len(layers.kept)
            layers.kept.append(layer)
    return layers


def price_at(layers, writes, number):
    """The greatest price of a load with so many writes, from this stand on."""
    if writes < len(layers.kept):
        return layers.kept[writes][number]
    rounds, rest = divmod(writes - layers.again, len(layers.kept) - layers.again)
    return layers.kept[layers.again + rest][number] + rounds * layers.rise
