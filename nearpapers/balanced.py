"""Forms and tests that say that all, or some, of many are true, nested as little as may be."""

NEVER = ("not", ("yes",))


def all_of(parts):
    """The form or test that all of some, one at least, are true."""
    if len(parts) == 1:
        return parts[0]
    half = len(parts) // 2
    return ("both", all_of(parts[:half]), all_of(parts[half:]))


def any_of(parts):
    """The form or test that one of some is true."""
    if len(parts) <= 1:
        return parts[0] if parts else NEVER
    half = len(parts) // 2
    return ("either", any_of(parts[:half]), any_of(parts[half:]))
