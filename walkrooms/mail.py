"""Mail: what is sent to boxes, who gets it there, and the steps of it."""

from walkrooms.errors import NoStep
from walkrooms.houses import binds_well, parts_within
from walkrooms.names import is_name
from walkrooms.parts import begins_with_word
from walkrooms.steps import are_places, part_at, without

# How many things a mail part of each word has, the word itself counted.
MAIL_SIZES = {"send": 3, "get": 4}
MOST_MAIL_PARTS = 20
MOST_GETS = 10
MOST_MAIL_DEEP = 4
MOST_LETTERS = 4


def is_mail(thing):
    """Whether thing, of any kind, is mail."""
    parts = parts_within(thing, MOST_MAIL_PARTS, MOST_MAIL_DEEP, is_mail_part, mail_rest)
    if parts is None or len([part for part in parts if part[0] == "get"]) > MOST_GETS:
        return False
    free, bound = mail_callings(thing)
    return binds_well(free, bound)


def is_mail_part(thing):
    """Whether thing, of any kind, is a mail part; its rest is not looked at."""
    if not begins_with_word(thing) or MAIL_SIZES.get(thing[0]) != len(thing):
        return False
    return all(is_mail_name(name) for name in thing[1:3])


def is_mail_name(thing):
    """Whether thing, of any kind, is a name that can stand in mail."""
    return is_name(thing) and len(thing) <= MOST_LETTERS and thing[0] != "z"


def mail_rest(part):
    """The mail in a mail part; a send, which has none, counts as having one without parts."""
    return part[3] if part[0] == "get" else ()


def mail_names(mail):
    """The names that are free in mail, sorted, each once."""
    free, bound = mail_callings(mail)
    return sorted(set(free))


def mail_callings(mail):
    """The lists of what is free in mail and of what gets bind, as often as it stands there."""
    free = []
    bound = []
    gather_mail_callings(mail, (), free, bound)
    return free, bound


def gather_mail_callings(mail, around, free, bound):
    """Adds the names in mail to the lists free and bound; around has what is bound where the mail stands."""
    for part in mail:
        is_get = part[0] == "get"
        used = part[1:2] if is_get else part[1:]
        free.extend([name for name in used if name not in around])
        if is_get:
            bound.append(part[2])
            gather_mail_callings(part[3], (*around, part[2]), free, bound)


def mail_steps(mail):
    """All mail steps, sorted."""
    return [
        (k, j)
        for k, sender in enumerate(mail) if sender[0] == "send"
        for j, getter in enumerate(mail) if getter[0] == "get" and getter[1] == sender[1]
    ]


def mail_done(mail, step):
    """The mail behind a mail step; NoStep, at 0, of anything that is none."""
    pair = pair_at(mail, step)
    if pair is None:
        raise NoStep(0)
    sender, getter = pair
    return (*without(mail, *step), *mail_called(getter[3], getter[2], sender[2]))


def pair_at(mail, step):
    """The send and the get of a mail step; None of anything that is none."""
    if not are_places(step) or len(step) != 2:
        return None
    sender = part_at(mail, step[0], "send")
    getter = part_at(mail, step[1], "get")
    if sender is None or getter is None or sender[1] != getter[1]:
        return None
    return sender, getter


def mail_called(mail, x, name):
    """The mail with each x, which it doesn't bind, called otherwise."""
    told = []
    for part in mail:
        names = [name if calling == x else calling for calling in part[1:3]]
        rests = [mail_called(rest, x, name) for rest in part[3:]]
        told.append((part[0], *names, *rests))
    return tuple(told)
