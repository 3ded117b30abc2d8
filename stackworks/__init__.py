"""Stackworks: programs for a stack, and what they do without running."""
