"""Letterboxes: mail as a house, and the deeds by which a mail step is done in it."""

from walkrooms.errors import NoStep
from walkrooms.mail import pair_at
from walkrooms.names import LETTERS

# Who brings a letter to a box, or looks for one there, walks in under this name and is opened.
GUEST = "zio"


def house_of_mail(mail, boxes):
    """The house of mail and of boxes, a sorted list of names that has all free ones of the mail."""
    number, parts = mail_built(0, mail)
    return (*[("room", box, (("again", (("open", GUEST, ()),)),)) for box in boxes], *parts)


def mail_built(number, mail):
    """How many gets there are up to the end of this mail, number ahead of it, and the row that its parts make."""
    told = []
    for part in mail:
        if part[0] == "send":
            told.append(guest(part[1], ("say", part[2])))
        else:
            name = f"z{LETTERS[number]}"
            number, rest = mail_built(number + 1, part[3])
            told.append(get_built(part, name, rest))
    return number, tuple(told)


def guest(box, part):
    """The room that carries a part into a box."""
    return ("room", GUEST, (("in", box, (part,)),))


def get_built(part, name, rest):
    """What a get makes: name is what the room is called that leads out what its rest makes."""
    leaver = ("room", name, (("out", part[1], rest),))
    return ("new", name, (guest(part[1], ("hear", part[2], (leaver,))), ("open", name, ())))


def mail_deeds(mail, boxes, step):
    """The nine steps in the house of mail and boxes, settled, that do a mail step; NoStep, at 0, of anything else."""
    pair = pair_at(mail, step)
    if pair is None:
        raise NoStep(0)
    box = boxes.index(pair[0][1])
    sender = place_of_guest(mail, boxes, step[0])
    # The sender's guest leaves first, and what stood behind it is one less then.
    getter = place_of_guest(mail, boxes, step[1]) - (1 if step[0] < step[1] else 0)
    # Both guests have left when the room that leads out the rest comes to the row's end.
    leaver = place_of_guest(mail, boxes, len(mail)) - 2
    return [
        ("in", (), sender, 0, box),
        ("again", (box,), 0),
        ("open", (box,), 2, 1),
        ("in", (), getter, 0, box),
        ("again", (box,), 0),
        ("open", (box,), 3, 2),
        ("letter", (box,), 1, 2),
        ("out", (), box, 1, 0),
        # Who opens that room stood behind the getter's guest, and stands in its place now.
        ("open", (), getter, leaver),
    ]


def place_of_guest(mail, boxes, k):
    """The place in the house, settled, at which what the mail part at k makes begins; a get makes two parts there."""
    return len(boxes) + k + len([part for part in mail[:k] if part[0] == "get"])
