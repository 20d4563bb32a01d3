"""Bellsaway: a house of bells for hands that are away."""
