"""Everylevel: levels of types for all whole numbers."""
