"""The ways of points: far steps, returns and first visits."""
