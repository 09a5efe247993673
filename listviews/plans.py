"""The fewest steps for a change.

A row that stays is known by its old index. Of these numbers, in their new order,
as many as possible are left untouched that ascend.
"""

from listviews.lists import with_item
from listviews.lists import without_index


def ranks_of(numbers):
    """Return for each number how many numbers ahead of it ascend to it at most."""
    ranks = []
    # The least number of each rank so far; so these ascend.
    least = []
    for number in numbers:
        rank = len([one for one in least if one < number])
        ranks.append(rank)
        least = [*least[:rank], number, *least[rank + 1 :]]
    return ranks


def longest_ascent(numbers):
    """Return as many of the numbers as possible that ascend, in their order."""
    ranks = ranks_of(numbers)
    ascent = []
    wanted = max(ranks, default=-1)
    # The last number of the rank below, ahead of a number, is the least one there.
    for number, rank in reversed(list(zip(numbers, ranks))):
        if rank == wanted:
            ascent.append(number)
            wanted = wanted - 1
    return ascent[::-1]


def descents_of(numbers):
    """Return as few lists as possible that descend, so that each number is in one of them."""
    ranks = ranks_of(numbers)
    return [[number for number, one in zip(numbers, ranks) if one == rank] for rank in sorted(set(ranks))]


def moves_to(numbers):
    """Return the fewest moves that lead from the ascending numbers to this order of them."""
    untouched = longest_ascent(numbers)
    now = sorted(numbers)
    moves = []
    for at, number in enumerate(numbers):
        if number not in untouched:
            index = now.index(number)
            others = without_index(now, index)
            # The number ahead has been put into its place, or was left there.
            target = others.index(numbers[at - 1]) + 1 if at > 0 else 0
            now = with_item(others, target, number)
            moves.append(("move", index, target))
    return moves


def steps_to(before, after):
    """Return the fewest steps that lead from so many rows to old indices and rows that come."""
    kept = [item for item in after if isinstance(item, int)]
    removals = [("remove", index) for index in reversed(range(before)) if index not in kept]
    insertions = [("insert", at, item) for at, item in enumerate(after) if not isinstance(item, int)]
    return removals + moves_to(kept) + insertions
