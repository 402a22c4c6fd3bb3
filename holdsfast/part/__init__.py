"""Where a net is weakest, and where it is most crowded."""
