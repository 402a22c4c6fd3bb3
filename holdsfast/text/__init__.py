"""Texts of values, and a shell that is told what to do by lines."""
