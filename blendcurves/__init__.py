"""Blendcurves: exact curves of polynomial pieces."""
