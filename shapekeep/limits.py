"""The limits of values, trees, libraries, plans and histories."""

MAX_ELEMENTS = 60
MAX_LEVELS = 6
MAX_NESTED = 30
MAX_TEMPLATES = 40
MAX_NODES = 3000
MAX_DEPTH = 100
MAX_ENTRIES = 100
