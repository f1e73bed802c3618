"""Sidesigns: rounds and cuts told by signs."""
