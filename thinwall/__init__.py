"""Tellings through thin walls, in rows of any length."""
