"""How much of the products of loop trees full runs of a loop surely reach (10.1).

A cycle of a loop is as many of its rounds, one behind the other, as its block has ways. In a full run, what is done
in a round is done again a cycle later. A row in a loop in the block is done as soon as this inner loop has as many
rounds as its own block has ways, the turns of the row; in k rounds, if not fewer than that, it is done at least k
times divided by 2 * turns - 1.

A loop tree has a time: that at which its row is done first behind the times of its trees. Behind that time and m
cycles more, the number of its name has at least a share of its product with m + 1 in the place of "#": what the row
needs was there m cycles behind its own time, and 1 ^ e + .. + (m + 1) ^ e, which an add row adds up in so many
cycles, is at least (m + 1) ^ (e + 1) divided by e + 1.
"""

from howhigh.flats import flat_rows, flat_terms
from howhigh.sums import raised
from howhigh.ways import block_ways, steps_of


class Cycles:
    """Tells shares of the products of the loop trees of a loop with this block, which is written out.

    A time is a pair: the number of the round and that of the step in the round.
    """

    def __init__(self, block):
        self._rows = flat_rows(block)
        self._many = len(block_ways(block))
        # For each flat row, without its coefficient, the fewest turns, and the times in a cycle that it takes them.
        self._turns = {}
        self._times = {}
        for number, way in enumerate(block_ways(block)):
            for place, step in enumerate(steps_of(block, {}, way)):
                self._note(step, (number, place))

    def _note(self, step, time):
        """Note that a step is done at this time of a cycle."""
        for word, name, _, product, loops in flat_terms((step,), ()):
            # Loops stand in one another at most 2 deep: there is no further one around it in the block.
            turns = len(block_ways(loops[0][2])) if loops else 1
            key = (word, name, product)
            if key not in self._turns or turns < self._turns[key]:
                self._turns[key] = turns
                self._times[key] = []
            if turns == self._turns[key]:
                self._times[key].append(time)

    def share_of(self, tree):
        """The pair of a share of the product of a loop tree, "#" standing for all rounds, and of the least number."""
        share, power, time, least = self._grown(tree)
        first = time[0] + 1
        # The most rounds in which no further cycle is finished, behind the first ones.
        most = first + self._many - 1
        return (share * raised(most, power), max(least, first))

    def _grown(self, tree):
        """The share of a loop tree by cycles, the power of "#" in its product, its time, and the least number."""
        if tree[0] == "begin":
            return (1, 0, (0, -1), 1)
        _, number, trees = tree
        word, name, _, product = self._rows[number]
        key = (word, name, product)
        share, power, time = 1, 0, (0, -1)
        least = self._turns[key]
        for (_, many), inner in zip(product, trees):
            part, further, done, needed = self._grown(inner)
            share = share * raised(part, many)
            power += further * many
            time = max(time, done)
            least = max(least, needed)
        if word == "add":
            power += 1
            share = share * power * (2 * self._turns[key] - 1)
        return (share, power, self._first_behind(time, key), least)

    def _first_behind(self, time, key):
        """The first time behind this one at which a flat row is done."""
        cycle = time[0] // self._many
        times = [(number + (cycle + more) * self._many, place)
                 for more in (0, 1) for number, place in self._times[key]]
        return min([further for further in times if further > time])
