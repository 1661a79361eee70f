"""Rooms: things of a world that have its fixed things and that no deed leads out of."""

from shapefree.worlds import world_from


def least_room(shape, world, things):
    """The least room with some things, or None where it would be without things."""
    room = sorted(set(list(things) + list(world[1])))
    wider = with_led(shape, world, room)
    while len(wider) > len(room):
        room = wider
        wider = with_led(shape, world, room)
    return tuple(room) if room else None


def with_led(shape, world, room):
    """Some things and those to which deeds on them lead, rising."""
    led = list(room)
    for deed, table in zip(shape[1], world[2]):
        led.extend(led_in(deed[1], table, room))
    return sorted(set(led))


def led_in(places, table, room):
    """The things to which a table of so many places leads from the room's things."""
    if places == 1:
        return [table[thing] for thing in room]
    led = []
    for thing in room:
        led.extend(led_in(places - 1, table[thing], room))
    return led


def rooms(shape, world):
    """All rooms of a world, sorted, as a list."""
    chosen = [()]
    for thing in range(world[0]):
        chosen = chosen + [things + (thing,) for things in chosen]
    return sorted([things for things in chosen if least_room(shape, world, things) == things])


def room_world(shape, world, room):
    """The world of a room: its things, renumbered in order."""
    numbers = dict([(thing, k) for k, thing in enumerate(room)])
    return world_from(shape, world, room, numbers)
