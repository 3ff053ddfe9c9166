"""The checker: it accepts claims that are true, whoever wrote their certificates.

It stands on no module that the claims are about; what it needs to know of them is written in the modules that begin
with proof, which only the checker uses.
"""

from shapekeep.proof_library import Lost, judged, known_templates
from shapekeep.proof_pages import page_of, written
from shapekeep.proof_places import ROOT, follow
from shapekeep.proof_signs import Doubt, demand, is_just, is_number, is_tuple


def accepts(claim, certificate):
    """Tells whether a claim has one of the forms, and all that is said about this form holds."""
    if not isinstance(claim, tuple) or not claim or not isinstance(claim[0], str) or claim[0] not in FORMS:
        return False
    if len(claim) != SIZES[claim[0]]:
        return False
    holds = FORMS[claim[0]]
    try:
        return holds(claim, certificate)
    except Doubt:
        return False


def _is_accepted(claim, certificate):
    _, templates, name, contexts = claim
    known = known_templates(templates)
    demand(isinstance(name, str) and name in known)
    found = known[name].contexts
    return certificate is None and is_just(tuple([(at, found[at]) for at in sorted(found)]), contexts)


def _is_misplaced(claim, certificate):
    _, templates, name, parameters, body, position, reason = claim
    known = known_templates(templates)
    try:
        judged(name, parameters, body, known)
    except Lost as lost:
        return certificate is None and is_just(lost.position, position) and is_just(lost.reason, reason)
    return False


def _is_page(claim, certificate):
    _, templates, name, data, text = claim
    triples = written(known_templates(templates), name, data)
    return is_just("".join([part for part, _, _ in triples]), text) and is_just(tuple(triples), certificate)


def _is_shape(claim, certificate):
    _, templates, name, data, tree = claim
    triples = written(known_templates(templates), name, data)
    # Different trees have different texts.
    return certificate is None and page_of(tree) == "".join([part for part, _, _ in triples])


def _is_patched(claim, certificate):
    _, old, new = claim
    demand(isinstance(old, str) and isinstance(new, str) and isinstance(certificate, tuple))
    parts = []
    done = 0
    for patch in certificate:
        demand(is_tuple(patch, 3))
        start, end, text = patch
        demand(is_number(start) and is_number(end) and isinstance(text, str))
        demand(done <= start <= end <= len(old) and (start < end or text != ""))
        parts.extend([old[done:start], text])
        done = end
    return "".join(parts) + old[done:] == new


def _is_same_place(claim, certificate):
    _, one, other = claim
    return certificate is None and _place_of(one) == _place_of(other)


def _is_other_place(claim, certificate):
    _, one, other = claim
    demand(isinstance(certificate, str))
    ends = [follow(_place_of(text), certificate) for text in (one, other)]
    return (ends[0] == ROOT) != (ends[1] == ROOT)


def _place_of(thing):
    """Returns the place to which any value leads, which must be a text that leads somewhere."""
    demand(isinstance(thing, str))
    place = follow(ROOT, thing)
    demand(place is not None)
    return place


FORMS = {"accepted": _is_accepted, "misplaced": _is_misplaced, "page": _is_page, "shape": _is_shape,
         "patched": _is_patched, "same place": _is_same_place, "other place": _is_other_place}
# How many elements the claims of each form have.
SIZES = {"accepted": 4, "misplaced": 7, "page": 5, "shape": 5, "patched": 3, "same place": 3, "other place": 3}
