"""Groups of turns."""
