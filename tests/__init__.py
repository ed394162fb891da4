"""Tests of everylevel, beside the package."""
