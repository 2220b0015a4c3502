"""Surfaces that are glued of pieces, and heights over them."""
