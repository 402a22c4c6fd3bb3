"""Ways between two places, and trees that tell their numbers."""
