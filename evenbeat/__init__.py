"""Evenbeat: strokes laid as evenly as can be round a wheel."""
