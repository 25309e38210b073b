"""Risenets: what nets of rising parts do, with small papers."""
