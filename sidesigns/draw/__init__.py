"""Drawings of systems, and rings."""
