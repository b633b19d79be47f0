"""Kinds of rooms, and which of them keep a house."""

from walkrooms.places import places_of, uses_in


def keeps(house, groups, rules):
    """Whether kinds, groups by names and rules by groups, keep a house."""
    if not all(place in groups and groups[place] in rules for place in places_of(house)):
        return False
    return all(is_use_kept(groups, rules, use) for use in uses_in(house))


def is_use_kept(groups, rules, use):
    """Whether a deed, a letter or a hear keeps the group of its place, whatever waits behind it."""
    place, word, name = use
    rule = rules[groups[place]]
    group = groups[name]
    walks, opened, goes, says = rule
    if word == "open":
        return can_be_poured(rules[group], rule)
    if word in ("say", "hear"):
        return says == group
    return walks and group in goes


def can_be_poured(poured, around):
    """Whether rooms with the one rule may be opened where the other one holds."""
    walks, opened, goes, says = poured
    walks_around, opened_around, goes_around, says_around = around
    if not opened or walks and not walks_around:
        return False
    return says in (None, says_around) and len(set(goes) - set(goes_around)) == 0
