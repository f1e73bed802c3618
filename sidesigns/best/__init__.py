"""Programs and their best corners."""
