"""Things that belong together because they share something, directly or through others."""


def group_from(rows, users, first):
    """The indexes of the rows that share a key with the first one, directly or through others, ascending."""
    members = {first: True}
    followed = {}
    waiting = [first]
    while waiting:
        at = waiting.pop()
        for key in rows[at]:
            if key not in followed:
                followed[key] = True
                for user in users[key]:
                    if user not in members:
                        members[user] = True
                        waiting.append(user)
    return sorted(members)


def linked_groups(rows):
    """The lists of the indexes of rows, which are lists of keys, that share keys; by their first indexes."""
    users = {}
    for at, row in enumerate(rows):
        for key in row:
            users.setdefault(key, []).append(at)
    groups = []
    grouped = {}
    for first in range(len(rows)):
        if first not in grouped:
            group = group_from(rows, users, first)
            for at in group:
                grouped[at] = True
            groups.append(group)
    return groups
