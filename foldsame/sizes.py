"""What runs of a code use, and its size."""

STUB = 2


def size_of(code, used):
    """The rows of the bodies used, and for each address used beyond the first one of a body what it costs once more."""
    bodies, addresses = used
    total = sum([len(code.rows_of(name)) for name in bodies])
    homes = {}
    for address in addresses:
        home = code.home_of(address)
        if home in homes:
            total += copy_size(code, home)
        homes[home] = True
    return total


def copy_size(code, body):
    """The size of one more address of a body: that of a stub at most if it is a function."""
    many = len(code.rows_of(body))
    return min(many, STUB) if code.kind_of(body) == "func" else many


def used_from(steps, states):
    """The ascending bodies and addresses that a code uses from states to their next events, with the entry."""
    runs = [steps.run_from(state) for state in states]
    bodies = [name for run in runs for name in run.bodies]
    addresses = [name for run in runs for name in run.addresses]
    return (tuple(sorted(set([steps.code.entry, *bodies]))), tuple(sorted(set(addresses))))
