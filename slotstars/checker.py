"""The checker: whether a claim holds, with what its paper tells, whoever wrote both."""

from slotstars.errors import SlotError
from slotstars.proofs_rows import PROOFS_OF_ROWS
from slotstars.proofs_waves import PROOFS_OF_WAVES
from slotstars.proofs_windings import PROOFS_OF_WINDINGS


def _proof_of(word):
    """The number of parts behind the word, and what is taken for a proof; None if no claim has this word."""
    if word in PROOFS_OF_ROWS:
        return PROOFS_OF_ROWS[word]
    if word in PROOFS_OF_WINDINGS:
        return PROOFS_OF_WINDINGS[word]
    return PROOFS_OF_WAVES[word] if word in PROOFS_OF_WAVES else None


def accepts(claim, paper):
    """Whether the claim is one, and the paper is one for it."""
    if not (isinstance(claim, tuple) and len(claim) > 0 and isinstance(claim[0], str)):
        return False
    word, *told = claim
    found = _proof_of(word)
    if found is None or len(told) != found[0]:
        return False
    _, is_proof = found
    try:
        return is_proof(paper, *told)
    except SlotError:
        return False
