"""The rounds of exchanges: courses, readings with their parts, and loops."""
