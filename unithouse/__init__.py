"""Unithouse: sorts of structures over names, and one rule that moves a mark."""
