"""Tests of the package pieceround."""
