"""What changes of a net change."""
