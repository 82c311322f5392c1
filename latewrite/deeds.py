"""Deeds: what each kind of deed holds, and where a guard holds."""


def place_of(deed):
    if deed[0] == "put":
        return deed[1]
    if is_read(deed):
        return deed[2]
    return None


def is_write(deed):
    return deed[0] in ("put", "swap")


def is_read(deed):
    return deed[0] in ("get", "swap")


def number_of(deed):
    # In both kinds of deed that write, the number stands right ahead of the guard.
    return deed[-2] if is_write(deed) else None


def cup_of(deed):
    return deed[1] if is_read(deed) else None


def guard_of(deed):
    return deed[-1]


def holds(guard, cups):
    if guard is None:
        return True
    # A cup that was never filled has 0, like one that was filled with it.
    has_it = cups.get(guard[1], 0) == guard[2]
    return has_it if guard[0] == "when" else not has_it
