"""What the steals, the room and the rounds of a hall keep within."""


def most_steals(workers, *, height=0):
    """Tell how many steals a run of this height, kept within and without a limit, has at most."""
    total = 0
    ways = 1
    for many in range(1, workers):
        # The ways to choose so many come of those to choose one fewer, and without anything left over.
        ways = ways * (height - many + 1) // many
        total += ways
    return total


def most_room(web, workers, *, limit=None):
    """Tell how much room a run takes at most, None where nothing bounds it."""
    if limit is not None:
        return limit + web.largest()
    return workers * web.largest() if web.loose() is None else None


def most_rounds(web, workers, *, limit=None):
    """Tell after how many rounds a hall is done at the latest."""
    return len(web) if limit is None else len(web) * (workers + 2) + 2
