"""The checker: whether a certificate shows that a claim is true, whoever wrote it.

What a claim and its certificate say is played once more here, event by event; nothing is searched for.
"""

from spareblocks.forms import are_prices, has_length, is_from, read_drive
from spareblocks.proofs import shows_at_least, shows_at_most, shows_more
from spareblocks.proofs_of_best import shows_forces, shows_holds
from spareblocks.terms import read_terms

AT_MOST = "at most"
AT_LEAST = "at least"
HOLDS = "holds"
FORCES = "forces"
MORE = "more"


def accept_at_most(claim, certificate):
    """Whether this is a claim "at most" with a certificate."""
    if not has_length(claim, 8):
        return False
    word, text, copies, erasures, trims, top, bottom, debt = claim
    terms = read_terms(text, copies, erasures, trims, None, top, bottom)
    return terms is not None and is_from(debt, 0) and shows_at_most(terms, debt, certificate)


def accept_at_least(claim, certificate):
    """Whether this is a claim "at least" with a certificate."""
    if not has_length(claim, 7):
        return False
    word, text, copies, erasures, trims, top, bottom = claim
    terms = read_terms(text, copies, erasures, trims, None, top, bottom)
    return terms is not None and shows_at_least(terms, certificate)


def accept_best(claim, certificate):
    """Whether this is a claim "holds" or "forces" with a certificate."""
    if not has_length(claim, 8):
        return False
    word, text, copies, erasures, trims, drift, top, bottom = claim
    terms = read_terms(text, copies, erasures, trims, drift, top, bottom)
    if terms is None:
        return False
    return shows_holds(terms, certificate) if word == HOLDS else shows_forces(terms, certificate)


def accept_more(claim, certificate):
    """Whether this is a claim "more" with a certificate."""
    if not has_length(claim, 6):
        return False
    word, text, other_text, copies, erasures, more = claim
    one, other = read_drive(text), read_drive(other_text)
    if one is None or other is None or one.names != other.names:
        return False
    if not are_prices(copies, erasures) or not is_from(more, 0):
        return False
    return shows_more(one, other, copies, erasures, more, certificate)


CHECKS = {"at most": accept_at_most, "at least": accept_at_least, "holds": accept_best, "forces": accept_best,
          "more": accept_more}


def accepts(claim, certificate):
    """Whether it is a claim for the checker, and the certificate is one for it."""
    if not isinstance(claim, tuple) or not claim or not isinstance(claim[0], str) or claim[0] not in CHECKS:
        return False
    check = CHECKS[claim[0]]
    return check(claim, certificate)
