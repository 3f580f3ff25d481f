"""How much of the products of loop trees full runs of a loop surely reach (10.1).

A cycle of a loop is as many of its rounds, one behind the other, as its block has ways. In each cycle of a full run
each of these ways is done once, so each row of the block is done, with numbers not below those ahead of the cycle.
A row in a loop in the block is done as soon as this inner loop has as many rounds as its block has ways, the turns of
the row; in k rounds, if not fewer than that, it is done at least k times divided by 2 * turns - 1.

So, behind m cycles, not fewer than the tree is deep, the number of a loop tree's name has at least the share of
the tree of its product, if "#" stands for m and 1 more, less the depth: what a row of it needs was there a cycle
ahead, and 1 ^ e + .. + n ^ e, which its add row adds in n cycles, is at least n ^ (e + 1) divided by e + 1.
"""

from howhigh.flats import flat_rows, flat_terms
from howhigh.sums import raised
from howhigh.ways import block_ways


class Cycles:
    """Tells shares of the products of the loop trees of a loop with this block, which is written out."""

    def __init__(self, block):
        self._rows = flat_rows(block)
        self._many = len(block_ways(block))
        self._turns = {}
        for word, name, _, product, loops in flat_terms(block, ()):
            # Loops stand in one another at most 2 deep: there is no further one around it in the block.
            turns = len(block_ways(loops[-1][2])) if loops else 1
            key = (word, name, product)
            self._turns[key] = min(turns, self._turns.get(key, turns))

    def share_of(self, tree):
        """The pair of a share of the product of a loop tree, "#" standing for all rounds, and of the least number."""
        share, power, deep, least = self._grown(tree)
        first = self._many * deep
        # The most rounds for 1 cycle behind the first ones are those of it and of one more that is not finished.
        return (share * raised(first + self._many - 1, power), max(least, first))

    def _grown(self, tree):
        """The share of a loop tree by cycles, the power of "#" in its product, its depth, and the least number."""
        if tree[0] == "begin":
            return (1, 0, 0, 1)
        _, number, trees = tree
        word, name, _, product = self._rows[number]
        share, power, deep = 1, 0, 0
        least = turns = self._turns[word, name, product]
        for (_, many), inner in zip(product, trees):
            part, further, depth, needed = self._grown(inner)
            share = share * raised(part, many)
            power += further * many
            deep = max(deep, depth)
            least = max(least, needed)
        if word == "add":
            power += 1
            share = share * power * (2 * turns - 1)
        return (share, power, deep + 1, least)
