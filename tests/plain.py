"""Steps, renamings, ends and tables told once more, as plainly as can be: what the program tells is held against it."""

import copy
import itertools


def as_lists(row):
    """A row as lists within lists."""
    return [[as_lists(thing) if isinstance(thing, tuple) else thing for thing in one] for one in row]


def as_tuples(row):
    """The row of lists within lists."""
    return tuple([tuple([as_tuples(thing) if isinstance(thing, list) else thing for thing in one]) for one in row])


def call(row, x, calling):
    """Calls x otherwise in a row of lists, in which no part binds it."""
    for one in row:
        if one[0] != "again" and one[1] == x:
            one[1] = calling
        if isinstance(one[-1], list):
            call(one[-1], x, calling)


def free(counter, row):
    """The parts of a row of lists, freed; counter is a list of next alone, which is changed."""
    told = []
    for one in row:
        if one[0] == "new":
            private = one[1] + "." + str(counter[0])
            counter[0] += 1
            call(one[2], one[1], private)
            told += free(counter, one[2])
        else:
            if one[0] == "room":
                one[2] = free(counter, one[2])
            told.append(one)
    return told


def all_rows(row, path=()):
    """Each row of a stand with its path."""
    told = [(path, row)]
    for k, one in enumerate(row):
        if one[0] == "room":
            told += all_rows(one[2], path + (k,))
    return told


def steps_tried(stand):
    """All steps, by trying each word with all places of each row."""
    told = []
    for path, row in all_rows(stand[1]):
        places = range(len(row))
        for k in places:
            if row[k][0] == "again":
                told.append(("again", path, k))
            for j in places:
                pair = (row[k][0], row[j][0])
                if pair == ("open", "room") and row[k][1] == row[j][1]:
                    told.append(("open", path, k, j))
                if pair == ("say", "hear"):
                    told.append(("letter", path, k, j))
                if pair == ("room", "room") and k != j:
                    for d, deed in enumerate(row[k][2]):
                        if deed[:2] == ("in", row[j][1]):
                            told.append(("in", path, k, d, j))
            if row[k][0] == "room":
                for j, inner in enumerate(row[k][2]):
                    for d, deed in enumerate(inner[2] if inner[0] == "room" else ()):
                        if deed[:2] == ("out", row[k][1]):
                            told.append(("out", path, k, j, d))
    return sorted(told)


def behind(stand, step):
    """The stand behind a step."""
    counter = [stand[0]]
    whole = as_lists(stand[1])
    row = whole
    for place in step[1]:
        row = row[place][2]
    word, places = step[0], step[2:]
    if word == "in":
        k, d, j = places
        walker, goal = row[k], row[j]
        deed = walker[2].pop(d)
        walker[2] += free(counter, deed[2])
        del row[k]
        goal[2].append(walker)
    elif word == "out":
        k, j, d = places
        walker = row[k][2].pop(j)
        deed = walker[2].pop(d)
        walker[2] += free(counter, deed[2])
        row.append(walker)
    elif word == "again":
        row += free(counter, copy.deepcopy(row[places[0]][1]))
    else:
        first, second = row[places[0]], row[places[1]]
        for place in sorted(places, reverse=True):
            del row[place]
        if word == "open":
            row += free(counter, first[2]) + second[2]
        else:
            call(second[2], second[1], first[1])
            row += free(counter, second[2])
    return (counter[0], as_tuples(whole))


def private_names(row):
    """The private names of a row, sorted, each once."""
    told = set()
    for one in row:
        if one[0] != "again" and "." in one[1]:
            told.add(one[1])
        if isinstance(one[-1], tuple):
            told |= set(private_names(one[-1]))
    return sorted(told)


def blanked_levels(row, around, names, news=False):
    """A row told as in 4.1, written apart from the program: nested tuples with levels, sorted by their writing.

    With news, what new binds is told too.
    """
    told = []
    for one in row:
        if one[0] == "again":
            told.append(("again", blanked_levels(one[1], around, names, news)))
        elif one[0] in ("hear", "new"):
            name = one[1] if news and one[0] == "new" else ""
            told.append((one[0] + name, blanked_levels(one[2], {**around, one[1]: len(around)}, names, news)))
        else:
            calling = around[one[1]] if one[1] in around else names.get(one[1], one[1])
            told.append((one[0], calling, blanked_levels(one[2], around, names, news) if len(one) == 3 else ()))
    return sorted(told, key=repr)


def all_renamings(one, other, news=False):
    """All renamings, by trying all orders; with news, such by which what new binds stays, too."""
    here, there = private_names(one[1]), private_names(other[1])
    if len(here) != len(there):
        return []
    wanted = blanked_levels(other[1], {}, {}, news)
    tried = [dict(zip(here, order)) for order in itertools.permutations(there)]
    return [names for names in tried if blanked_levels(one[1], {}, names, news) == wanted]


def all_ends(house_stand):
    """What ends_of tells: stands held against each other by trying all orders, runs gone through one by one."""
    met = [house_stand]
    for stand in met:
        for step in steps_tried(stand):
            after = behind(stand, step)
            if not any(all_renamings(after, other) for other in met):
                met.append(after)
    return len(met), [stand for stand in met if not steps_tried(stand)], count_runs(house_stand)


def count_runs(stand):
    """How many runs lead from a stand to an end."""
    steps = steps_tried(stand)
    return sum(count_runs(behind(stand, step)) for step in steps) if steps else 1


def lies(part, place, holds, means, heard):
    """Whether a part of a house or a stand lies in a place, word by word as in 8.2."""
    entries = holds.get(place, [])
    word = part[0]
    if word in ("new", "again"):
        return all(lies(one, place, holds, means, heard) for one in part[-1])
    if word == "hear":
        return ("hear", part[1]) in entries and all(lies(one, place, holds, means, heard) for one in part[2])
    names = means.get(part[1], []) if part[1] in heard else [part[1].partition(".")[0]]
    if word == "room":
        return all(("room", n) in entries and all(lies(one, n, holds, means, heard) for one in part[2]) for n in names)
    if not all((word, n) in entries for n in names):
        return False
    return word == "say" or all(lies(one, place, holds, means, heard) for one in part[2])


def heard_names(row):
    """The names that hears of a row bind."""
    told = set()
    for one in row:
        if one[0] == "hear":
            told.add(one[1])
        if isinstance(one[-1], tuple):
            told |= heard_names(one[-1])
    return told


def lets(house, holds, means):
    """Whether a table is let by, all places and names gone through as in 8.3."""
    heard = heard_names(house)
    if not all(lies(one, ".", holds, means, heard) for one in house):
        return False
    names = {name for entries in holds.values() for word, name in entries}

    def has(place, word, name):
        return (word, name) in holds.get(place, [])

    for p in holds:
        for m in names:
            for a in names:
                if has(p, "say", a) and has(p, "hear", m) and a not in means.get(m, []):
                    return False
                if has(a, "in", m) and has(p, "room", a) and has(p, "room", m) and not has(m, "room", a):
                    return False
                if has(a, "out", m) and has(m, "room", a) and has(p, "room", m) and not has(p, "room", a):
                    return False
            if has(p, "open", m) and has(p, "room", m) and not all(has(p, *entry) for entry in holds.get(m, [])):
                return False
    return True


def base(calling):
    """The name ahead of a dot."""
    return calling.split(".")[0]


def within(holds, a, b):
    """Whether a may come within b, by trying all chains of entries, longer and longer ones."""
    places = {b, a, *holds, *[name for entries in holds.values() for word, name in entries]}
    pairs = {(name, place) for place, entries in holds.items() for word, name in entries if word == "room"}
    for _ in places:
        pairs |= {(low, high) for low, middle in pairs for other, high in pairs if other == middle}
    return (a, b) in pairs


def is_meeting(row, a, b):
    """Whether a room of base a is within one of base b: each row of the stand, and what its rooms are called."""
    for path, inside in all_rows(row):
        around, here = [], row
        for k in path:
            around.append(base(here[k][1]))
            here = here[k][2]
        if b in around and any(part[0] == "room" and base(part[1]) == a for part in inside):
            return True
    return False


def keeps_bases(names):
    """Whether a renaming leaves bases as they are."""
    return all(base(one) == base(other) for one, other in names.items())


def levels(begin, most):
    """Lists of the stands that are come to by no step, by one, and so on, each once, until they are more than most.

    Gone on is from all stands that are not the same with what new binds left as it is: these lead to unlike ones.
    """
    counted, met = {}, {}
    add_unlike(counted, begin, False)
    add_unlike(met, begin, True)
    told, ahead = [[begin]], [begin]
    while ahead and sum(len(level) for level in told) <= most:
        after = [behind(stand, step) for stand in ahead for step in steps_tried(stand)]
        ahead = [stand for stand in after if add_unlike(met, stand, True)]
        told.append([stand for stand in ahead if add_unlike(counted, stand, False)])
    return told


def add_unlike(lots, stand, news):
    """Adds a stand to lots of such, unless it is the same as one by a renaming that leaves bases as they are; whether it did."""
    blank = repr(blanked_levels(stand[1], {}, {name: base(name) + "." for name in private_names(stand[1])}, news))
    lot = lots.setdefault(blank, [])
    if any(any(keeps_bases(names) for names in all_renamings(stand, other, news)) for other in lot):
        return False
    lot.append(stand)
    return True


def part_keeps(part, group, groups, rules):
    """Whether a part keeps a group, clause by clause as in 10.2."""
    word, rest = part[0], part[-1] if isinstance(part[-1], tuple) else ()
    walks, opened, goes, says = rules[group]
    if word == "room":
        return all(part_keeps(one, groups[part[1]], groups, rules) for one in rest)
    if word in ("in", "out") and not (walks and groups[part[1]] in goes):
        return False
    if word == "open":
        there = rules[groups[part[1]]]
        if not there[1] or (there[0] and not walks) or not set(there[2]) <= set(goes) or there[3] not in (None, says):
            return False
    if word in ("say", "hear") and says != groups[part[1]]:
        return False
    return all(part_keeps(one, group, groups, rules) for one in rest)


def all_names(row):
    """All names that stand in a row."""
    told = {part[1] for part in row if part[0] != "again"}
    for part in row:
        if isinstance(part[-1], tuple):
            told |= all_names(part[-1])
    return told


def kinds_keep(house, groups, rules):
    """Whether kinds keep a house."""
    names = all_names(house) | {"."}
    if not names <= set(groups) or not {groups[name] for name in names} <= set(rules):
        return False
    return all(part_keeps(part, groups["."], groups, rules) for part in house)


def placed(row, place):
    """Each part of a row, and of rests, with the place that it stands in."""
    told = []
    for part in row:
        told.append((place, part))
        if isinstance(part[-1], tuple):
            told += placed(part[-1], part[1] if part[0] == "room" else place)
    return told


def finest(house):
    """The finest kinds, by rules for each name alone, and sets of names that must be one, made larger again and again."""
    names = sorted(all_names(house) | {"."})
    one = {name: {name} for name in names}
    walks, opened = set(), set()
    goes, says = {name: set() for name in names}, {name: set() for name in names}
    before = None
    while before != (one, walks, opened, goes, says):
        before = copy.deepcopy((one, walks, opened, goes, says))
        for place, part in placed(house, "."):
            if part[0] in ("in", "out"):
                walks.add(place)
                goes[place].add(part[1])
            if part[0] == "open":
                opened.add(part[1])
                if part[1] in walks:
                    walks.add(place)
                goes[place] |= goes[part[1]]
                says[place] |= says[part[1]]
            if part[0] in ("say", "hear"):
                says[place].add(part[1])
        for name in names:
            for said in says[name]:
                one[said] |= says[name]
            for other in one[name]:
                one[other] |= one[name]
                goes[other] |= goes[name]
                says[other] |= says[name]
                walks |= {other} if name in walks else set()
                opened |= {other} if name in opened else set()
    groups = {name: min(one[name]) for name in names}
    rules = {}
    for name in names:
        told = sorted({groups[goal] for goal in goes[name]})
        said = sorted({groups[other] for other in says[name]})
        rules[groups[name]] = (name in walks, name in opened, told, said[0] if said else None)
    return groups, rules
