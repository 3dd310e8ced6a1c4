"""Whether one drive costs more than another one, on any load."""

from spareblocks.checks import check_more, check_pair, check_terms
from spareblocks.climbing import climb
from spareblocks.errors import TooMany
from spareblocks.gaps import Gap, find_gap
from spareblocks.joints import Half, Joint
from spareblocks.limits import MOST_JOINT
from spareblocks.naming import name_walk
from spareblocks.reaching import find_web
from spareblocks.webs import explore


def find_joint_web(one, other, trims):
    """The web of the joint stands of two drives."""
    source = Joint(Half(one, find_web(one, trims)), Half(other, find_web(other, trims)))
    web = explore(source, trims, MOST_JOINT)
    if len(web.reached) > MOST_JOINT:
        raise TooMany(MOST_JOINT)
    return web


def excess(one, other, *, copies=1, erasures=0, trims=True):
    """The greatest price of the one less that of the other, over all loads; None if there is no greatest one."""
    check_pair(one, other)
    check_terms(copies, erasures, trims)
    return find_gap(find_joint_web(one, other, trims), copies, erasures)


def never_more(one, other, *, copies=1, erasures=0, trims=True):
    """Whether no load costs the one more than the other."""
    check_pair(one, other)
    check_terms(copies, erasures, trims)
    return find_gap(find_joint_web(one, other, trims), copies, erasures) == 0


def worse_load(one, other, more=0, *, copies=1, erasures=0, trims=True):
    """A shortest load that costs the one by more than this more than the other; None if there is none."""
    check_pair(one, other)
    check_more(more)
    check_terms(copies, erasures, trims)
    web = find_joint_web(one, other, trims)
    events = climb(Gap(web, copies, erasures), more + 1)
    return None if events is None else name_walk([one, other], events)
