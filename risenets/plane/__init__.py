"""Plane nets and their duals."""
