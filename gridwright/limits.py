"""The bounds that hold in all parts of the package."""

MOST_SIDE = 8
MOST_MODULUS = 10 ** 6
MOST_PRIME = 100
MOST_POWER = 64
MOST_FAR = 10 ** 30
MOST_RUN = 40
MOST_LISTED = 400
MOST_LOOKS = 12
MOST_PLACES = 16
