"""Regions of systems."""
