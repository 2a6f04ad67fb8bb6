"""The claims and their rules once more, as the document says them in words, by trying all and by plain Python."""

import itertools

CLAIMS = [(word,) for word in ("leader", "tree", "balance", "sides", "odd", "cover", "pairing", "nearest", "round",
                               "least")]
WIDTHS = {"leader": 2, "tree": 2, "many": 4, "balance": 5, "sides": 1, "odd": 3, "cover": 1, "pairing": 3, "nearest": 3,
          "round": 3, "least": 22}


def picked_pairs(world):
    return [world.web.ties[k] for k in world.picked]


def joined(houses, ties):
    """Whether ties join all houses."""
    seen = {houses[0]}
    while True:
        more = {b for a, b, _ in ties if a in seen} | {a for a, b, _ in ties if b in seen}
        if more <= seen:
            return len(seen) == len(houses)
        seen |= more


def is_tree_of_all(world, ties):
    return len(ties) == world.web.many - 1 and joined(range(world.web.many), ties)


def is_pairing(ties):
    ends = [house for tie in ties for house in tie[:2]]
    return len(ends) == len(set(ends))


def two_sides(world):
    return any(all(sides[a] != sides[b] for a, b, _ in world.web.ties)
               for sides in itertools.product((0, 1), repeat=world.web.many))


def way_weights(ties, start, many):
    """For each house the least weight of a way from start, by going through all ways that meet no house twice."""
    best = {start: 0}

    def go(house, met, weight):
        for a, b, more in ties:
            for one, other in ((a, b), (b, a)):
                if one == house and other not in met:
                    best[other] = min(best.get(other, weight + more), weight + more)
                    go(other, met | {other}, weight + more)

    go(start, {start}, 0)
    return [best.get(house) for house in range(many)]


def rank(world, tie):
    names = sorted([world.names[tie[0]], world.names[tie[1]]])
    return (tie[2], *names)


def plain_true(claim, world):
    """Whether a claim is true, by trying all."""
    word, many, signs, ties = claim[0], world.web.many, world.web.signs, world.web.ties
    picked = picked_pairs(world)
    if word == "leader":
        return sum(sign == 1 for sign in signs) == 1
    if word == "tree":
        return is_tree_of_all(world, picked)
    if word == "many":
        return many == claim[1]
    if word == "balance":
        return sum(sign == 1 for sign in signs) == sum(sign == 2 for sign in signs)
    if word in ("sides", "odd"):
        return two_sides(world) == (word == "sides")
    if word == "cover":
        return is_pairing(picked) and any(all(a in lot or b in lot for a, b, _ in ties)
                                          for lot in itertools.combinations(range(many), len(picked)))
    if word == "pairing":
        more = itertools.combinations(ties, len(picked) + 1)
        return is_pairing(picked) and not any(is_pairing(lot) for lot in more)
    if word == "nearest":
        ones = [house for house in range(many) if signs[house] == 1]
        return len(ones) == 1 and is_tree_of_all(world, picked) and (
            way_weights(picked, ones[0], many) == way_weights(ties, ones[0], many))
    if word == "round":
        return many >= 3 and any(
            sorted([tuple(sorted((row[k - 1], row[k]))) for k in range(many)]) == sorted([tie[:2] for tie in picked])
            for row in itertools.permutations(range(many)))
    lots = [lot for lot in itertools.combinations(ties, many - 1) if is_tree_of_all(world, lot)]
    return tuple(picked) == min(lots, key=lambda lot: sorted([rank(world, tie) for tie in lot]))


def one(truths):
    return sum(truths) == 1


def plain_says(claim, seen):
    """What a house says by the rule of a claim, word by word; papers have the right width."""
    (name, sign, paper), near = seen
    word = claim[0]
    its = [row[4] for row in near]
    picked = [row for row in near if row[2]]
    if word == "leader":
        root, far = paper
        good = all(p[0] == root for p in its) and (far == 0) == (sign == 1)
        return good and (root == name if far == 0 else any(p[1] == far - 1 for p in its))
    if word in ("tree", "nearest"):
        root, far = paper[:2]
        good = all(p[0] == root for p in its)
        good = good and all(row[4][1] in (far - 1, far + 1) for row in picked)
        firsts = [row for row in picked if row[4][1] == far - 1]
        good = good and len(firsts) == (1 if far > 0 else 0)
        if word == "tree":
            return good and (far == 0) == (root == name)
        good = good and (far == 0) == (sign == 1)
        length = paper[2]
        if far == 0:
            good = good and root == name and length == 0
        else:
            good = good and length == firsts[0][1] + firsts[0][4][2]
        return good and not any(row[1] + row[4][2] < length for row in near)
    if word in ("many", "balance"):
        root, far, up = paper[:3]
        good = all(p[0] == root for p in its) and (far == 0) == (root == name)
        hanging = [row[4] for row in near if row[4][2] == name]
        good = good and all(p[1] == far + 1 for p in hanging)
        if far == 0:
            good = good and up == name
        else:
            good = good and any(row[0] == up and row[4][1] == far - 1 for row in near)
        if word == "many":
            beneath = paper[3]
            return good and beneath == 1 + sum(p[3] for p in hanging) and (far != 0 or beneath == claim[1])
        ones, twos = paper[3:]
        good = good and ones == sum(p[3] for p in hanging) + (1 if sign == 1 else 0)
        good = good and twos == sum(p[4] for p in hanging) + (1 if sign == 2 else 0)
        return good and (far != 0 or ones == twos)
    if word == "sides":
        return paper[0] in (0, 1) and all(p[0] != paper[0] for p in its)
    if word == "odd":
        root, far, place = paper
        good = all(p[0] == root for p in its) and (far == 0) == (root == name)
        good = good and (far == 0 or any(p[1] == far - 1 for p in its)) and (place == 1) == (far == 0)
        good = good and (place <= 1 or any(p[2] == place - 1 for p in its))
        return good and (far != 0 or any(p[2] % 2 == 1 and p[2] > 1 for p in its))
    if word == "cover":
        inside = paper[0]
        good = inside in (0, 1) and (inside == 1 or all(p[0] == 1 for p in its)) and len(picked) <= 1
        return good and all(row[4][0] != inside for row in picked) and (inside != 1 or len(picked) > 0)
    if word == "pairing":
        return plain_pairing(name, paper, near, picked)
    if word == "round":
        root, size, place = paper
        good = all(p[0] == root and p[1] == size for p in its) and place < size and (place == 0) == (root == name)
        places = sorted([row[4][2] for row in picked])
        return good and size >= 3 and places == sorted([(place + 1) % size, (place - 1) % size])
    return plain_least(name, paper, near, picked)


def plain_pairing(name, paper, near, picked):
    lot, root, far = paper
    if lot > 2 or len(picked) > 1:
        return False
    if lot == 0:
        return root == far == 0 and any(row[4][0] == 1 and row[4][2] == 0 for row in picked)
    if lot == 2:
        return (root == far == 0 and any(row[4][0] == 2 for row in picked)
                and not any(row[4][0] == 1 for row in near))
    like = [row[4] for row in near if row[4][0] == 1]
    good = not any(row[4][0] == 2 for row in near) and all(p[1] == root for p in like)
    good = good and (far == 0) == (root == name) and (far == 0) == (not any(row[4][0] == 1 for row in picked))
    return good and (far == 0 or any(p[2] == far - 1 for p in like))


def plain_least(name, paper, near, picked):
    frag = lambda p, level: p[2 * level]
    far = lambda p, level: p[2 * level + 1]
    chosen = lambda p, level: p[10 + 3 * level:13 + 3 * level]
    rank_of = lambda row: (row[1], min(name, row[0]), max(name, row[0]))
    if paper[0] != name or not all(frag(row[4], 4) == frag(paper, 4) for row in near):
        return False
    for level in range(5):
        if (far(paper, level) == 0) != (frag(paper, level) == name):
            return False
        if far(paper, level) > 0 and not any(frag(row[4], level) == frag(paper, level)
                                             and far(row[4], level) == far(paper, level) - 1 for row in picked):
            return False
    for level in range(4):
        for row in near:
            p = row[4]
            if frag(p, level) == frag(paper, level):
                if chosen(p, level) != chosen(paper, level) or frag(p, level + 1) != frag(paper, level + 1):
                    return False
                continue
            if rank_of(row) < chosen(paper, level):
                return False
            if rank_of(row) == chosen(paper, level) and not (row[2] and frag(p, level + 1) == frag(paper, level + 1)):
                return False
    return all(any(frag(row[4], level) != frag(paper, level)
                   and rank_of(row) in (chosen(paper, level), chosen(row[4], level)) for level in range(4))
               for row in picked)
