"""Currents and heights that fit ranges, or what bars them."""
