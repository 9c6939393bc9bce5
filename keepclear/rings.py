"""Rings of boats, each of which keeps clear of the next one. clear_of tells of each boat which it keeps clear of."""


def does_reach(boats, reached):
    return any([boat in reached for boat in boats])


# How many steps each boat is from the goal at least, through boats of greater numbers than the goal's alone: the goal
# is to be the least one of its ring. Boats without a way to it are left out.
def steps_to(clear_of, goal):
    steps = {goal: 0}
    reached = [goal]
    count = 0
    while len(reached) > 0:
        count += 1
        further = [boat for boat in clear_of if boat > goal and boat not in steps]
        reached = [boat for boat in further if does_reach(clear_of[boat], reached)]
        for boat in reached:
            steps[boat] = count
    return steps


# Empty if there is none. The least boat of each step gives the first ring by its numbers.
def ring_from(clear_of, start):
    steps = steps_to(clear_of, start)
    ways = [steps[boat] for boat in clear_of[start] if boat in steps]
    ring = []
    if len(ways) > 0:
        ring.append(start)
        for left in range(min(ways), 0, -1):
            ring.append(min([boat for boat in clear_of[ring[-1]] if steps.get(boat) == left]))
    return ring


def ring_told(clear_of):
    found = []
    for start in sorted(clear_of):
        ring = ring_from(clear_of, start)
        if len(ring) > 0 and (len(found) == 0 or len(ring) < len(found)):
            found = ring
    return found
