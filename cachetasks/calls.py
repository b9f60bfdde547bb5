"""How one list of whole numbers is read as calls, one behind another."""

# By the call's number: its name, how many whole numbers it has, whether a row stands behind them.
CALLS = (
    ("reload", 1, False),
    ("task", 0, True),
    ("retask", 1, True),
    ("untask", 1, False),
    ("order", 0, True),
    ("sorted", 1, False),
    ("tasks", 0, False),
    ("ranks", 0, False),
    ("cost", 2, False),
    ("response", 1, False),
    ("all", 0, False),
    ("best", 0, False),
    ("course", 1, False),
    ("trace", 2, False),
    ("late", 1, False),
)


def read_calls(calls):
    """Each call as its name, its whole numbers and its row, which is empty if it has none."""
    read = []
    at = 0
    while at < len(calls):
        call = CALLS[calls[at]]
        at += 1
        numbers = calls[at:at + call[1]]
        at += len(numbers)
        row = []
        if call[2]:
            row = calls[at + 1:at + 1 + calls[at]]
            at += 1 + len(row)
        read.append((call[0], numbers, row))
    return read
