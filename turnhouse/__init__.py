"""Turnhouse: houses of rooms, and the walks that they let pass."""
