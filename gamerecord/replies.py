"""The numbers that answers begin with: 0, or a refusal's."""

DONE = 0
WRONG_FORM = -1
NO_TEXT = -2
NOT_NOW = -3
NO_PLACE = -4
NOT_THAT_SIDE = -5
AGAINST_RULES = -6
