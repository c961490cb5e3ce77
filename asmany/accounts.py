"""Bundles counted as pieces of a formula."""

from asmany.edits import is_bundle
from asmany.errors import Refused
from asmany.formulas import kinds_of
from asmany.layouts import share
from asmany.serving import whole_cover


def count_as(formula, bundle):
    """As how many pieces a bundle counts, None if it does not."""
    return share(formula, _amounts_of(formula, bundle))


def fall_pools(formula, bundle):
    """Two pools of which a bundle takes unequal numbers of pieces, None if it counts."""
    amounts = _amounts_of(formula, bundle)
    if share(formula, amounts) is not None:
        return None
    # From itself it takes the pieces that it has, from a cover all pieces: these are more.
    return amounts, whole_cover(formula, amounts)


def _amounts_of(formula, bundle):
    """The amounts of the kinds of a formula in a bundle; any other value is refused."""
    if not is_bundle(bundle):
        raise Refused("bundle")
    table = dict(bundle)
    return tuple([table.get(kind, 0) for kind in kinds_of(formula)])
