"""Claims for the checker about one drive: what they are about."""

from spareblocks.checks import MOST_DRIFT
from spareblocks.forms import are_prices, is_from, is_truth, read_drive
from spareblocks.kinds import is_within


class Terms:
    """A drive, prices, whether trims are let, a drift, and the rate top / bottom."""

    def __init__(self, drive, copies, erasures, trims, drift, top, bottom):
        self.drive = drive
        self.copies = copies
        self.erasures = erasures
        self.trims = trims
        self.drift = drift
        self.top = top
        self.bottom = bottom


def read_terms(text, copies, erasures, trims, drift, top, bottom):
    """The terms of a claim with these elements, None if one of them cannot stand there."""
    if not are_prices(copies, erasures) or not is_truth(trims) or not is_from(top, 0) or not is_from(bottom, 1):
        return None
    if drift is not None and not is_within(drift, 1, MOST_DRIFT):
        return None
    drive = read_drive(text)
    return None if drive is None else Terms(drive, copies, erasures, trims, drift, top, bottom)


def weigh(terms, copied, erased, writes):
    """The weight of events with so many copied pages, erasures and writes."""
    return terms.bottom * (terms.copies * copied + terms.erasures * erased) - terms.top * writes
