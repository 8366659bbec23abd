"""Names, checks and texts that all other parts use."""
