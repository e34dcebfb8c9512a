"""Menutree: a house that is called, led by keys from room to room."""
