"""Partviews: views of one log."""
