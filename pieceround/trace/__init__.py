"""The traces of points, and what follows and leads them."""
