"""Rises: the ways of single parts."""
