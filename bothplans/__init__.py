"""Bothplans: what answers rest on, and when the common keys of two plans are enough."""
