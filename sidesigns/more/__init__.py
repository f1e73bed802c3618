"""Putting one more thing into a system."""
