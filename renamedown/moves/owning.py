"""How the owners of a group are put in another order, while all exchanges stay."""


def _spread(trail, indices, start):
    """The dict from each step, in the order in which it is reached from the start, to the one ahead of it."""
    found = {start: start}
    level = [start]
    while level != []:
        following = []
        for one in list(level):
            for other in indices:
                if other not in found and trail.meet_at(one, other):
                    found[other] = one
                    following.append(other)
        level = following
    return found


def _bring_owner(trail, indices, index, owner):
    """Bring the owner to the step with an index, through the steps with the other indices."""
    found = _spread(trail, indices, index)
    at = [other for other in found if trail.now[other][2] == owner][0]
    while at != index:
        trail.swap_owners(min(at, found[at]), max(at, found[at]))
        at = found[at]


def put_owners(trail, indices, owners):
    """Give the steps of a group, told by their indices, these owners, which are theirs in another order."""
    wanted = {index: owner for index, owner in zip(indices, owners)}
    left = list(_spread(trail, indices, indices[0]))
    while left != []:
        # The steps ahead are joined without the last one, so it is needed no more.
        _bring_owner(trail, left, left[-1], wanted[left[-1]])
        left.pop()
