"""Compassless: nameless robots on a floor, and the figures they can be brought to."""
