"""Steps told once more, over lists that are changed in place: what the program tells is held against it."""

import copy


def as_lists(row):
    """A row as lists within lists."""
    return [[as_lists(thing) if isinstance(thing, tuple) else thing for thing in one] for one in row]


def as_tuples(row):
    """The row of lists within lists."""
    return tuple([tuple([as_tuples(thing) if isinstance(thing, list) else thing for thing in one]) for one in row])


def call(row, x, calling):
    """Calls x otherwise in a row of lists, in which no part binds it."""
    for one in row:
        if one[0] != "again" and one[1] == x:
            one[1] = calling
        if isinstance(one[-1], list):
            call(one[-1], x, calling)


def free(counter, row):
    """The parts of a row of lists, freed; counter is a list of next alone, which is changed."""
    told = []
    for one in row:
        if one[0] == "new":
            private = one[1] + "." + str(counter[0])
            counter[0] += 1
            call(one[2], one[1], private)
            told += free(counter, one[2])
        else:
            if one[0] == "room":
                one[2] = free(counter, one[2])
            told.append(one)
    return told


def all_rows(row, path=()):
    """Each row of a stand with its path."""
    told = [(path, row)]
    for k, one in enumerate(row):
        if one[0] == "room":
            told += all_rows(one[2], path + (k,))
    return told


def steps_tried(stand):
    """All steps, by trying each word with all places of each row."""
    told = []
    for path, row in all_rows(stand[1]):
        places = range(len(row))
        for k in places:
            if row[k][0] == "again":
                told.append(("again", path, k))
            for j in places:
                pair = (row[k][0], row[j][0])
                if pair == ("open", "room") and row[k][1] == row[j][1]:
                    told.append(("open", path, k, j))
                if pair == ("say", "hear"):
                    told.append(("letter", path, k, j))
                if pair == ("room", "room") and k != j:
                    for d, deed in enumerate(row[k][2]):
                        if deed[:2] == ("in", row[j][1]):
                            told.append(("in", path, k, d, j))
            if row[k][0] == "room":
                for j, inner in enumerate(row[k][2]):
                    for d, deed in enumerate(inner[2] if inner[0] == "room" else ()):
                        if deed[:2] == ("out", row[k][1]):
                            told.append(("out", path, k, j, d))
    return sorted(told)


def behind(stand, step):
    """The stand behind a step."""
    counter = [stand[0]]
    whole = as_lists(stand[1])
    row = whole
    for place in step[1]:
        row = row[place][2]
    word, places = step[0], step[2:]
    if word == "in":
        k, d, j = places
        walker, goal = row[k], row[j]
        deed = walker[2].pop(d)
        walker[2] += free(counter, deed[2])
        del row[k]
        goal[2].append(walker)
    elif word == "out":
        k, j, d = places
        walker = row[k][2].pop(j)
        deed = walker[2].pop(d)
        walker[2] += free(counter, deed[2])
        row.append(walker)
    elif word == "again":
        row += free(counter, copy.deepcopy(row[places[0]][1]))
    else:
        first, second = row[places[0]], row[places[1]]
        for place in sorted(places, reverse=True):
            del row[place]
        if word == "open":
            row += free(counter, first[2]) + second[2]
        else:
            call(second[2], second[1], first[1])
            row += free(counter, second[2])
    return (counter[0], as_tuples(whole))
