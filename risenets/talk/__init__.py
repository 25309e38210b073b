"""Texts, and a bench that keeps nets under names."""
