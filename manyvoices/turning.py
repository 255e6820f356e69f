"""Turning points: how great a share of all members a condition may ask for."""

from manyvoices.goals import check_wishes
from manyvoices.shares import broken_by, shares_in
from manyvoices.sheets import Sheet
from manyvoices.wishes import check_index


def turning(protocol, name, index, wishes):
    """Returns the intervals of the shares, asked by a condition of a rule, at which some wish is broken."""
    check_index(protocol.rule(name), index)
    check_wishes(protocol, wishes)
    sheet = Sheet(protocol, apart=(name, index), is_open=True)
    return shares_in(sheet, sheet.share_sum(), broken_by(sheet, wishes))
