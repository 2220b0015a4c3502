"""Walks among orders, and what holds for all lengths of the names at once."""
