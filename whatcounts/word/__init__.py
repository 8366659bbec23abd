"""Words, told by their runs."""
