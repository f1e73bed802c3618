"""Orders of the things, and what they make active."""
