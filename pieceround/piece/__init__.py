"""Exchanges of the pieces of a segment."""
