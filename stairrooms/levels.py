"""What a house keeps, rises and falls: pairs of rooms, the same at every level from 1 on.

Within the program what a house keeps is a table: table[p][q] tells whether it keeps (p, q).
"""

from stairrooms.houses import refuse_no_house


def ways_of_deed(house, deed):
    return [way for way in house[1] if way[1] == deed]


def told_pairs(house, choice):
    pairs = []
    for p in range(house[0]):
        pairs.extend([(p, q) for q in range(house[0]) if choice(p, q)])
    return pairs


def beginning_table(house):
    table = []
    for p in range(house[0]):
        table.append([p == q for q in range(house[0])])
    for way in ways_of_deed(house, "stay"):
        table[way[0]][way[2]] = True
    return table


# Two walks that keep a level, one behind the other, keep it too.
def join_walks(table):
    many = len(table)
    for middle in range(many):
        for p in range(many):
            if table[p][middle]:
                table[p] = [table[p][q] or table[middle][q] for q in range(many)]


# Up, a walk that keeps the level above, and down again keep the level; told is whether
# any pair of rooms is new by that.
def add_arches(table, ups, downs):
    added = False
    for rise in ups:
        for fall in downs:
            if table[rise[2]][fall[0]] and not table[rise[0]][fall[2]]:
                table[rise[0]][fall[2]] = True
                added = True
    return added


# Each new arch may make higher ones and longer walks, so this goes on until none is new.
def kept_table(house):
    table = beginning_table(house)
    ups = ways_of_deed(house, "up")
    downs = ways_of_deed(house, "down")
    join_walks(table)
    while add_arches(table, ups, downs):
        join_walks(table)
    return table


def kept(house):
    refuse_no_house(house)
    table = kept_table(house)
    return told_pairs(house, lambda p, q: table[p][q])


def risen(house):
    refuse_no_house(house)
    table = kept_table(house)
    ups = ways_of_deed(house, "up")
    return told_pairs(house, lambda p, q: any([table[way[2]][q] for way in ups if way[0] == p]))


def fallen(house):
    refuse_no_house(house)
    table = kept_table(house)
    downs = ways_of_deed(house, "down")
    return told_pairs(house, lambda p, q: any([table[p][way[0]] for way in downs if way[2] == q]))
