"""Chosen places: joins, odd cuts and tours."""
