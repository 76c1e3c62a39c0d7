"""How much is counted at most before TooMany is raised."""

MOST_STATES = 1000
MOST_SETS = 4000
