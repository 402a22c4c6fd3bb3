"""A game of cutting and keeping ties."""
