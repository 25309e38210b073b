"""What all stages rest on: checks of plain values, and ranges."""
