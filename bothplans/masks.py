"""Lots as numbers: key k is in the lot if bit k is set. Where many lots are compared, this is the quicker form."""


def mask_of(lot):
    """The mask of a lot."""
    return sum([1 << key for key in lot])


def lot_of(mask):
    """The lot of a mask."""
    return tuple([key for key in range(mask.bit_length()) if mask >> key & 1])


def lots_of(masks):
    """The lots of masks, ascending."""
    return tuple(sorted([lot_of(mask) for mask in masks]))


def is_within(mask, other):
    """Whether all keys of the first mask are in the second one."""
    return mask & other == mask


def differing_mask(one, other):
    """The mask of the keys in which two states differ."""
    mask = 0
    bit = 1
    for value, other_value in zip(one, other):
        if value != other_value:
            mask = mask | bit
        bit = bit << 1
    return mask


def least_masks(masks):
    """Those of some unlike masks within which no other one of them lies."""
    return [mask for mask in masks if not _has_other_within(mask, masks)]


def _has_other_within(mask, masks):
    return any([other != mask and is_within(other, mask) for other in masks])
