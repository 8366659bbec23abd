"""Tables of counts."""
