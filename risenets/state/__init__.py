"""States of nets."""
