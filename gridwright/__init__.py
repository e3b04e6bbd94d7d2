"""Gridwright: numbers of four kinds, grids of them, and what every grid comes down to."""
