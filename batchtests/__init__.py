"""Conditions evaluated in batches, and which plans give the same result."""
