"""The finest kinds of a house."""

from walkrooms.places import all_within, places_of, uses_in


class Groups:
    """Names put together, each group called by its least name; what each group says, by one name of that group."""

    def __init__(self, places):
        self.group_by_name = {place: place for place in places}
        self.said = {}
        self.changes = 0

    def group_said(self, group):
        """The group that a group says, or None."""
        return self.group_by_name[self.said[group]] if group in self.said else None

    def let_say(self, place, name):
        """Lets the group of a place say that of a name; where it says one already, both become one."""
        group = self.group_by_name[place]
        if group not in self.said:
            self.said[group] = name
            self.changes += 1
        elif self.group_said(group) != self.group_by_name[name]:
            self.put_together(self.group_said(group), self.group_by_name[name])

    def put_together(self, one, other):
        """Makes two groups one; what it says is not looked at."""
        least, last = sorted([one, other])
        for name in list(self.group_by_name):
            if self.group_by_name[name] == last:
                self.group_by_name[name] = least
        self.changes += 1


def told_kinds(house):
    """The finest kinds that keep a house, a tuple (groups, rules)."""
    uses = uses_in(house)
    groups = groups_told(places_of(house), uses)
    told = dict(groups.group_by_name)
    opened = {told[name]: True for place, word, name in uses if word == "open"}
    walked = groups_used(told, uses, ("in", "out"))
    poured = groups_used(told, uses, ("open",))
    rules = {}
    for group in sorted(set(list(told.values()))):
        goes = sorted(set([goal for inner in [group, *all_within(poured, group)] for goal in walked.get(inner, [])]))
        # Whoever walks goes by some room, and is let walk only for that.
        rules[group] = (len(goes) > 0, group in opened, goes, groups.group_said(group))
    return told, rules


def groups_told(places, uses):
    """The groups of a house: apart are all names but those that one group says or hears."""
    groups = Groups(places)
    before = -1
    # Groups that became one may say two groups: all is gone through again until nothing changes.
    while groups.changes != before:
        before = groups.changes
        for place, word, name in uses:
            if word in ("say", "hear"):
                groups.let_say(place, name)
            elif word == "open":
                said = groups.group_said(groups.group_by_name[name])
                if said is not None:
                    groups.let_say(place, said)
    return groups


def groups_used(told, uses, words):
    """For each group the groups whose names stand behind these words in it."""
    used = {}
    for place, word, name in uses:
        if word in words:
            used.setdefault(told[place], []).append(told[name])
    return used
