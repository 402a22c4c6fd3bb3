"""Ties that are led past a place, and what is carried over to the net without it."""
