"""Spells: a small language of effects on areas."""
