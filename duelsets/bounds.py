"""The limits that the package sets."""

# The most alternatives of a table.
MAX_SIZE = 9

# The most entries of a plan.
MAX_ENTRIES = 20

# The most edits of a bench that stand at once.
EDITS = 60

# The most edits of one run of a bench.
BATCH = 20
