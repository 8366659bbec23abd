"""A desk: a text that grows, and functions that are watched."""
