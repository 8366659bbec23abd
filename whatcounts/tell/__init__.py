"""What counts can tell of tallies and readers."""
