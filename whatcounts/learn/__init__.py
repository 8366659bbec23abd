"""Functions told back from their answers."""
