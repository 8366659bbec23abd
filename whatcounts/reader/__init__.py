"""Readers, which answer yes or no state by state."""
