"""Fewpoints: spaces of few points, folded down to their cores."""
