"""Nets seen from two ends."""
