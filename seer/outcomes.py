"""Outcomes: what boxes can hold behind an act."""

from seer.acts import anew, greatest, least, recast
from seer.calls import answered
from seer.copies import laid
from seer.rests import rest_parted, rest_rested
from seer.stretches import stretch_parted, stretch_rested
from seer.sums import box_sums, sum_rest
from seer.tolds import sharp
from seer.whens import when


def outcome(told, act, summaries):
    sharpened = sharp(told)
    if sharpened is None or act[0] in ("go", "say"):
        return sharpened
    if act[0] == "when":
        return when(sharpened, act[1], act[2])
    if act[0] == "call":
        return answered(sharpened, act[1], act[3], summaries[act[2]])
    return laid_by(sharpened, act)


def laid_by(told, act):
    if act[0] == "set":
        n = len(told[1])
        return recast(told, laid(box_sums(n, n), act[1], act[2]))
    if act[0] == "any":
        return anew(told, act[1], (act[2], act[3]), (1, 0))
    span = (least(told, act[2]), greatest(told, act[2]))
    left = sum_rest(act[2], told[1])
    if act[0] == "part":
        return anew(told, act[1], stretch_parted(span, act[3]), rest_parted(left, act[3]))
    return anew(told, act[1], stretch_rested(span, act[3]), rest_rested(left, act[3]))
