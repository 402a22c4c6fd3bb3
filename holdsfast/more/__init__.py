"""The fewest new ties that make a net hold better."""
