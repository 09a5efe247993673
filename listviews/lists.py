"""New lists from old ones, which stay as they are."""


def with_item(items, index, item):
    """Return the list of these items and one more, which has this index."""
    return [*items[:index], item, *items[index:]]


def without_index(items, index):
    """Return the list of these items without the one that has this index."""
    return [*items[:index], *items[index + 1 :]]
