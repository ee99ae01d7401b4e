"""Lastfaces: who was last seen in each room of a house."""
