"""Which bodies may be known: those that are only called."""

from fourbind.looking import Looked


def first_bar(looked, body):
    """The first statement by which the body may not be known, None where it may, and of body 0."""
    if body == 0:
        return None
    name = looked.name_of(body)
    for k, place in enumerate(looked.places):
        meanings = looked.meanings[k]
        # The first use of a call is what it calls, and bars nothing.
        barring = meanings[1:] if place.statement[0] == "call" else meanings
        if name in barring:
            return k
    return None


def may_be_known(program):
    """The bodies that may be known, rising."""
    looked = Looked(program)
    return tuple([body for body in range(1, len(looked.body_rows)) if first_bar(looked, body) is None])


def why_not(program, body):
    """The first statement by which the body may not be known, None where it may, and of body 0."""
    return first_bar(Looked(program), body)
