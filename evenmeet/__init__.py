"""Evenmeet: points and blocks that meet evenly, or papers why they can't."""
