"""Wirebeats: arrays of processors made from a direction."""
