"""Callmatch: facts brought along ways in which each return goes back to its own call."""
