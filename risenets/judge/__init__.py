"""Claims and their papers."""
