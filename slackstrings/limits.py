"""The limits of puppets, scripts, facts, wishes, sights and stages."""

MOST_PARTS = 6
MOST_TIES = 10
MOST_HOOKS = 4
MOST_STRINGS = 6
MOST_MOVES = 6
MOST_HAULS = 3
MOST_FACTS = 8
MOST_AMOUNT = 10 ** 6
MOST_WISHES = 6
MOST_DEPTH = 4
MOST_OVERS = 8
MOST_SIGHTS = 6
MOST_GUARDS = 4
