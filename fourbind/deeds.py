"""Made bodies: what each row does, names being put as places.

A binding is the way in which that is done. It has a web, and tells: head(body); room_size(ground), the slots of the
room that is made where the ground is gone in, or None; place(body, ground, m), where m lies for the body in that
ground; bears(body, other), the places of what the body packs for the other, or hands to it.
"""

from fourbind.flow import ground_at_hand, made_at, rows_in


def made_bodies(binding):
    """The bodies of the binding's program, made in its way."""
    many = len(binding.web.looked.body_rows)
    return tuple([(binding.head(body), made_rows(binding, body)) for body in range(many)])


def made_rows(binding, body):
    rows = rows_in(binding.web.looked, body)
    return tuple([(mark, deed_of(binding, body, mark), goals) for mark, goals in rows])


def deed_of(binding, body, mark):
    """What the mark, one of the body's, does."""
    word, at = mark
    if word == "in":
        return deed_of_in(binding, body, at)
    if word == "do":
        return deed_of_do(binding, body, at)
    looked = binding.web.looked
    if word == "step" and looked.places[at].statement[1] == "own":
        return ("step", None)
    place = binding.place(body, ground_at_hand(looked, mark), looked.made[at][0])
    return ("step" if word == "step" else "bind", place)


def deed_of_in(binding, body, ground):
    looked = binding.web.looked
    many = binding.room_size(ground)
    # As from the room that is made here; where none is, the ground has the room around it at hand.
    places = tuple([binding.place(body, ground, m) for m in made_at(looked, ("in", ground))])
    if looked.ground_rows[ground][0] == "body":
        return ("begin", many, places)
    return ("enter", many, places[0] if places else None)


def deed_of_do(binding, body, k):
    looked = binding.web.looked
    statement, ground = looked.places[k].statement, looked.places[k].ground
    word = statement[0]
    atoms = tuple([bound(binding, body, ground, atom) for atom in looked.atoms[k]])
    if word == "fn":
        return deed_of_fn(binding, body, k)
    if word == "call":
        return deed_of_call(binding, body, k, atoms)
    if word == "let":
        return (word, binding.place(body, ground, looked.made[k][0]), *atoms)
    if word == "sum":
        return (word, binding.place(body, ground, looked.made[k][0]), statement[2], *atoms)
    if word == "times":
        return (word, statement[1], *atoms)
    return (word, *atoms)


def bound(binding, body, ground, atom):
    """An atom with its place in the making's stead."""
    sort, thing = atom
    return atom if sort == "num" else binding.place(body, ground, thing)


def deed_of_fn(binding, body, k):
    looked = binding.web.looked
    made = looked.fn_bodies[k]
    if made in binding.web.known:
        return ("known", made)
    place = binding.place(body, looked.places[k].ground, looked.made[k][0])
    return ("fn", place, made, binding.bears(body, made))


def deed_of_call(binding, body, k, atoms):
    known = binding.web.step_from(k)
    if known is None:
        return ("call", atoms[0], atoms[1:])
    return ("go", known, atoms[1:], binding.bears(body, known))
