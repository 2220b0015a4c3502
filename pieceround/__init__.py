"""Pieceround: exchanges of the pieces of a segment."""
