"""A net that is changed step by step."""
