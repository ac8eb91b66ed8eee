"""Seer: what boxes can hold, told ahead of any run."""
