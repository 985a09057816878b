"""Least lots: those lots of some items that do something, while no lesser part of them does it.

A lot that does it goes on doing so with more items, so that few lots need to be asked for. A MASK is the
sum of the bits of the items of a lot.
"""


def least_lots(row, does):
    """Return the ascending list of the least lots of an ascending row of which does tells True."""
    least = []
    idle = []
    for mask in range(1 << len(row)):
        # The lesser parts of a lot have lesser masks, so that all of them have been settled ahead of it.
        if not _has_one(mask, least) and not _is_in_one(mask, idle):
            if does(_lot(row, mask)):
                least.append(mask)
            else:
                idle.append(_widened(row, does, mask, least))
    return sorted([_lot(row, mask) for mask in least])


def _widened(row, does, mask, least):
    """Return the mask of a greatest lot that does not do it, and in which this lot is, which does not either."""
    wide = mask
    for at in range(len(row)):
        wider = wide | 1 << at
        if not _has_one(wider, least) and not does(_lot(row, wider)):
            wide = wider
    return wide


def _has_one(mask, masks):
    """Tell whether a lot has all items of one of these."""
    return any([other & ~mask == 0 for other in masks])


def _is_in_one(mask, masks):
    """Tell whether one of these has all items of a lot."""
    return any([mask & ~other == 0 for other in masks])


def _lot(row, mask):
    """Return the ascending list of the items of a lot."""
    return [item for at, item in enumerate(row) if mask & 1 << at != 0]
