"""Boxfall: players that act on what can be shown of one another."""
