"""How levels run in time."""
