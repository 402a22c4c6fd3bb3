"""Tests of holdsfast."""
