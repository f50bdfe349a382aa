"""Floodtree: land under rising water."""
