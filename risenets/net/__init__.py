"""Nets of rises, their loops and cuts."""
