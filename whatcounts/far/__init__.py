"""Far texts, told by programs."""
