"""Roamlook: where things may be that move within told paces, and what looks tell of it."""
