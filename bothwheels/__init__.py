"""Trains of wheels that slip, as far as they can turn."""
