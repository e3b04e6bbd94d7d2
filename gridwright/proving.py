"""What the checker asks of texts of grids and columns: whether they have a sense together, and what products they make.

Each function takes what was read of a text, None where that is the text of nothing, and tells False of it.
"""

from gridwright.columns import Column
from gridwright.grids import Grid, grid_or_none, one_grid


def are_texts(value, many):
    """Whether a value is a tuple of so many strings."""
    return isinstance(value, tuple) and len(value) == many and all([isinstance(text, str) for text in value])


def grids_or_none(texts, many):
    """The list of so many grids with these texts; None if a text is not that of a grid, or they are not as many."""
    if not are_texts(texts, many):
        return None
    grids = [grid_or_none(text) for text in texts]
    return None if any([grid is None for grid in grids]) else grids


def is_grid(value):
    """Whether a text was that of a grid."""
    return isinstance(value, Grid)


def is_square(value):
    """Whether a text was that of a square grid."""
    return isinstance(value, Grid) and value.is_square


def is_column(value, kind, size):
    """Whether a text was that of a column of a kind and a size."""
    return isinstance(value, Column) and value.kind == kind and len(value) == size


def has_shape(value, kind, shape):
    """Whether a text was that of a grid of a kind and a shape."""
    return isinstance(value, Grid) and value.kind == kind and value.shape == shape


def makes(grid, other, product):
    """Whether a grid times another one, or a column, has a sense and is a third one."""
    if not isinstance(grid, Grid) or not isinstance(other, (Grid, Column)):
        return False
    return grid.kind == other.kind and grid.shape[1] == other.shape[0] and grid * other == product


def makes_one(grid, other):
    """Whether a grid times another one has a sense and is a one grid."""
    return isinstance(grid, Grid) and makes(grid, other, one_grid(grid.kind, len(grid)))


def undoes(grid, other, size):
    """Whether two square grids of a size are the inverses of one another."""
    return is_square(grid) and is_square(other) and len(grid) == size and makes_one(grid, other)
