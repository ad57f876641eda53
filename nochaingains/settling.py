"""Going on from a stand, downwards or upwards, to a settled one."""

from nochaingains.stands import settled_from


def settle_down(web, stand):
    """The greatest settled stand that is at most the stand, if the next stand is at most the stand."""
    return settled_from(web, stand)


def settle_up(web, stand):
    """The least settled stand that the stand is at most, if the stand is at most the next stand."""
    return settled_from(web, stand)
