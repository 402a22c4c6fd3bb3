"""Holdsfast: one table of cuts, and all ways in which a net holds."""
